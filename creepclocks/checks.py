"""Checks of arguments that several modules share."""

from creepclocks.errors import (
    CantTurn, InvalidFraction, InvalidNumber, InvalidOrder, InvalidPlace, InvalidTimes, InvalidTop, IsStill, NotSlow,
    OrderTooLow, UnlikeFlats, UnlikeOrders,
)
from creepclocks.ratios import ONE, ZERO, is_between, is_fraction

LOWEST_ORDER = 2
HIGHEST_ORDER = 24
MOST_TIMES = 12


def is_listing(value):
    """Whether any value is a list, or a tuple in the place of one."""
    return isinstance(value, (list, tuple))


def check_order(order):
    if not is_between(order, LOWEST_ORDER, HIGHEST_ORDER):
        raise InvalidOrder(order)


def check_orders(one, other):
    """Refuses two objects with different orders."""
    if one.order != other.order:
        raise UnlikeOrders(one.order, other.order)


def check_flats(one, other):
    """Refuses two objects with different flats."""
    if one.flat != other.flat:
        raise UnlikeFlats(one.flat, other.flat)


def check_cut(have, wanted):
    """Refuses a wanted order to which an object of the order have cannot be cut."""
    check_order(wanted)
    if wanted > have:
        raise OrderTooLow(have, wanted)


def check_times(value, low, high):
    if not is_between(value, low, high):
        raise InvalidTimes(value)


def check_place(place, first, last):
    if not is_between(place, first, last):
        raise InvalidPlace(place)


def check_number(value):
    if not is_fraction(value):
        raise InvalidNumber(value)


def wrong_item(numbers):
    """The index of the first item of a list that is no fraction, None if there is none."""
    for at, number in enumerate(numbers):
        if not is_fraction(number):
            return at
    return None


def is_choice(numbers, many):
    """Whether any value is a list of so many items."""
    return is_listing(numbers) and len(numbers) == many


def check_fractions(numbers):
    at = wrong_item(numbers)
    if at is not None:
        raise InvalidFraction(at)


def checked_numbers(numbers, further):
    """A new list of the numbers of an object whose order is their count and further more."""
    if not is_listing(numbers):
        raise InvalidFraction(-1)
    check_order(len(numbers) + further)
    check_fractions(numbers)
    return list(numbers)


def checked_top(numbers, many):
    """A new list of so many numbers that were chosen."""
    if not is_choice(numbers, many):
        raise InvalidTop(-1)
    at = wrong_item(numbers)
    if at is not None:
        raise InvalidTop(at)
    return list(numbers)


def check_slow(step):
    if step.lead != ONE:
        raise NotSlow(step.lead)


def check_slow_of(order, step):
    """Refuses a step of another order, and one that is not slow."""
    if step.order != order:
        raise UnlikeOrders(order, step.order)
    check_slow(step)


def check_creep(step):
    check_slow(step)
    if step.kind == "still":
        raise IsStill(step.order)


def check_turnable(step):
    if step.lead == ZERO:
        raise CantTurn()
