"""Tallies: rows with poles and a log, whose numbers stand at places from below 0 on."""

from creepclocks.checks import (
    HIGHEST_ORDER, check_flats, check_fractions, check_number, check_orders, check_place, check_turnable, is_listing,
)
from creepclocks.errors import InvalidFlat, InvalidFraction, InvalidOrder
from creepclocks.ratios import ONE, ZERO, is_between, negative_of, power_of, quotient_of
from creepclocks.series import differences_of, mixed, multiples_of, multiplied, sums_of, unit_log, unit_power
from creepclocks.texts import tally_text


def checked_tally(flat, numbers):
    """A new list of the numbers of a tally with this flat."""
    if not is_between(flat, 1, HIGHEST_ORDER - 1):
        raise InvalidFlat(flat)
    if not is_listing(numbers):
        raise InvalidFraction(-1)
    order = flat + len(numbers)
    if len(numbers) == 0 or order > HIGHEST_ORDER:
        raise InvalidOrder(order)
    check_fractions(numbers)
    return list(numbers)


class Tally:
    """A tally, given by its flat and the list of its numbers from the place below 0 that the flat tells."""

    def __init__(self, flat, numbers):
        self._numbers = checked_tally(flat, numbers)
        self.flat = flat
        self.order = flat + len(numbers)
        self.last = len(numbers) - flat - 1
        self.log = None if self.last < 0 else self._numbers[flat]

    def numbers(self):
        """The list of the numbers."""
        return list(self._numbers)

    def number(self, place):
        """The number at a place."""
        check_place(place, -self.flat, self.last)
        return self._numbers[place + self.flat]

    def scaled(self, t):
        """The tally times a fraction."""
        check_number(t)
        return Tally(self.flat, multiples_of(self._numbers, t))

    def behind(self, step):
        """The tally behind a step, without its constant part."""
        check_orders(self, step)
        check_turnable(step)
        found = mixed(self._numbers, letters_behind(self.flat, step.numbers()))[:len(self._numbers)]
        if self.log is not None:
            # What stands here is the constant part; the log of x keeps its number.
            found[self.flat] = self.log
        return Tally(self.flat, found)

    def text(self):
        """The text of the tally."""
        return tally_text(self._numbers, -self.flat)

    def __add__(self, other):
        check_orders(self, other)
        check_flats(self, other)
        return Tally(self.flat, sums_of(self._numbers, other.numbers()))

    def __sub__(self, other):
        check_orders(self, other)
        check_flats(self, other)
        return Tally(self.flat, differences_of(self._numbers, other.numbers()))

    def __neg__(self):
        return Tally(self.flat, [negative_of(number) for number in self._numbers])

    def __eq__(self, other):
        return isinstance(other, Tally) and self.flat == other.flat and self._numbers == other._numbers

    def __len__(self):
        return len(self._numbers)

    def __str__(self):
        return str(self.text())

    def __repr__(self):
        return f"Tally({self.text()})"


def letters_behind(flat, numbers):
    """The powers of x at the places of a tally, and its log(x), put into the turnable step with these numbers.

    Each is a list of numbers from the place -flat on, as many as the step has. Of the log only what the step adds to
    log(x) is told, without the constant part.
    """
    order, lead = len(numbers), numbers[0]
    unit = multiples_of(numbers, quotient_of(ONE, lead))
    power = multiples_of(unit_power(unit, (-flat, 1)), power_of(lead, -flat))
    found = []
    for place in range(-flat, order - 2 * flat):
        part = unit_log(unit) if place == 0 else power
        found.append(([ZERO] * (place + flat) + part)[:order])
        power = multiplied(power, numbers)
    return found
