"""Checks of arguments that several modules share."""

from creepclocks.errors import (
    CantTurn, InvalidFraction, InvalidNumber, InvalidOrder, InvalidPlace, NotSlow, OrderTooLow, UnlikeOrders,
)
from creepclocks.ratios import ONE, ZERO, is_between, is_fraction

LOWEST_ORDER = 2
HIGHEST_ORDER = 24


def is_listing(value):
    """Whether any value is a list, or a tuple in the place of one."""
    return isinstance(value, (list, tuple))


def check_order(order):
    if not is_between(order, LOWEST_ORDER, HIGHEST_ORDER):
        raise InvalidOrder(order)


def check_orders(one, other):
    """Refuses two objects with different orders."""
    if one.order != other.order:
        raise UnlikeOrders(one.order, other.order)


def check_cut(have, wanted):
    """Refuses a wanted order to which an object of the order have cannot be cut."""
    check_order(wanted)
    if wanted > have:
        raise OrderTooLow(have, wanted)


def check_place(place, first, last):
    if not is_between(place, first, last):
        raise InvalidPlace(place)


def check_number(value):
    if not is_fraction(value):
        raise InvalidNumber(value)


def checked_numbers(numbers, further):
    """A new list of the numbers of an object whose order is their count and further more."""
    if not is_listing(numbers):
        raise InvalidFraction(-1)
    check_order(len(numbers) + further)
    for at, number in enumerate(numbers):
        if not is_fraction(number):
            raise InvalidFraction(at)
    return list(numbers)


def check_slow(step):
    if step.lead != ONE:
        raise NotSlow(step.lead)


def check_turnable(step):
    if step.lead == ZERO:
        raise CantTurn()
