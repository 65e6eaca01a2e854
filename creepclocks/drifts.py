"""Drifts: what moves rows, and flows as steps."""

from creepclocks.checks import check_number, check_orders, check_place, check_slow, check_turnable, checked_numbers
from creepclocks.errors import IsStill, NotAFlow
from creepclocks.ratios import ZERO, negative_of, quotient_of
from creepclocks.rows import Row
from creepclocks.series import (
    binomial_log, differences, differences_of, flowed, least_place, mixed, moved_parts, multiples_of, multiplied, slope,
    still_numbers, sums_of, table_lines, turned_back,
)
from creepclocks.steps import Step, first_difference
from creepclocks.texts import numbers_text


class Drift:
    """A drift, given by the list of its numbers at the places 2 to its order."""

    def __init__(self, numbers):
        self._numbers = checked_numbers(numbers, 1)
        self.order = len(numbers) + 1
        self.flat = least_place(self._numbers, 1)
        self.strength = None if self.flat is None else self._numbers[self.flat - 1]

    def numbers(self):
        """The list of the numbers."""
        return list(self._numbers)

    def number(self, place):
        """The number at a place."""
        check_place(place, 2, self.order)
        return self._numbers[place - 2]

    def scaled(self, t):
        """The drift times a fraction."""
        check_number(t)
        return Drift(multiples_of(self._numbers, t))

    def moved(self, row):
        """The row to which the drift moves a row."""
        check_orders(self, row)
        return Row(multiplied(series_of(self), slope(row.numbers())))

    def text(self):
        """The text of the drift."""
        return numbers_text(self._numbers, 2)

    def __add__(self, other):
        check_orders(self, other)
        return Drift(sums_of(self._numbers, other.numbers()))

    def __sub__(self, other):
        check_orders(self, other)
        return Drift(differences_of(self._numbers, other.numbers()))

    def __xor__(self, other):
        check_orders(self, other)
        one, another = series_of(self), series_of(other)
        bracket = differences_of(multiplied(one, slope(another)), multiplied(another, slope(one)))
        return Drift(bracket[2:])

    def __neg__(self):
        return Drift([negative_of(number) for number in self._numbers])

    def __eq__(self, other):
        return isinstance(other, Drift) and self._numbers == other._numbers

    def __len__(self):
        return len(self._numbers)

    def __str__(self):
        return str(self.text())

    def __repr__(self):
        return f"Drift({self.text()})"


def series_of(drift):
    """The numbers of a drift from the place 0 on."""
    return [ZERO, ZERO] + drift.numbers()


def drift_of(step):
    """The drift of a slow step."""
    check_slow(step)
    found = differences(still_numbers(step.order), table_lines(step.numbers()))
    return Drift(binomial_log(found)[1:])


def flow_of(drift, t=(1, 1)):
    """The flow of a drift for a fraction t, which is a slow step."""
    check_number(t)
    return Step(flowed([ZERO] + still_numbers(drift.order), series_of(drift), t)[1:])


def polynomial(numbers):
    """The list of numbers without the zeros at its end."""
    many = len(numbers)
    while many > 0 and numbers[many - 1] == ZERO:
        many -= 1
    return numbers[:many]


def flow_polynomials(drift):
    """The list of the polynomials in t of the numbers of the flow at the places 1 to the order."""
    parts = moved_parts([ZERO] + still_numbers(drift.order), series_of(drift))
    return [polynomial([part[place] for part in parts]) for place in range(1, drift.order + 1)]


def time_between(one, other):
    """The fraction t for which other is the power t of the creep one."""
    check_orders(one, other)
    check_slow(one)
    check_slow(other)
    if one.kind == "still":
        raise IsStill(one.order)
    t = quotient_of(other.numbers()[one.flat], one.strength)
    place = first_difference(one.power(t), other)
    if place is not None:
        raise NotAFlow(place)
    return t


def renamed_drift(drift, step):
    """The drift of the flow of a drift renamed by a step."""
    check_orders(drift, step)
    check_turnable(step)
    moved = multiplied(slope([ZERO] + step.numbers()), series_of(drift))
    return Drift(mixed(moved[1:], table_lines(turned_back(step.numbers())))[1:])


def joined(first, *others):
    """The drift of the flow of first behind the flows of the others, in order."""
    step = flow_of(first)
    for drift in others:
        step = step * flow_of(drift)
    return drift_of(step)
