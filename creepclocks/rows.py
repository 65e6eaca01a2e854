"""Rows: polynomials in x from the place 0 on, cut at their order."""

from creepclocks.checks import check_cut, check_number, check_order, check_orders, check_place, checked_numbers
from creepclocks.errors import NotOne
from creepclocks.ratios import ONE, ZERO, negative_of
from creepclocks.series import (
    differences_of, least_place, multiples_of, multiplied, reciprocal_of, row_behind, sums_of, table_lines, unit_log,
    unit_power,
)
from creepclocks.texts import numbers_text


class Row:
    """A row, given by the list of its numbers at the places 0 to its order."""

    def __init__(self, numbers):
        self._numbers = checked_numbers(numbers, -1)
        self.order = len(numbers) - 1
        self.height = least_place(self._numbers, 0)

    @staticmethod
    def constant(value, order):
        """The row with the number value at the place 0, and 0 elsewhere."""
        check_number(value)
        check_order(order)
        return Row([value] + [ZERO] * order)

    def numbers(self):
        """The list of the numbers."""
        return list(self._numbers)

    def number(self, place):
        """The number at a place."""
        check_place(place, 0, self.order)
        return self._numbers[place]

    def scaled(self, t):
        """The row times a fraction."""
        check_number(t)
        return Row(multiples_of(self._numbers, t))

    def cut(self, order):
        """The row with the numbers up to a lower order."""
        check_cut(self.order, order)
        return Row(self._numbers[:order + 1])

    def behind(self, step):
        """The row u behind the step f, which is u(f(x))."""
        check_orders(self, step)
        return Row(row_behind(self._numbers, table_lines(step.numbers())))

    def text(self):
        """The text of the row."""
        return numbers_text(self._numbers, 0)

    def __add__(self, other):
        check_orders(self, other)
        return Row(sums_of(self._numbers, other.numbers()))

    def __sub__(self, other):
        check_orders(self, other)
        return Row(differences_of(self._numbers, other.numbers()))

    def __mul__(self, other):
        check_orders(self, other)
        return Row(multiplied(self._numbers, other.numbers()))

    def __neg__(self):
        return Row([negative_of(number) for number in self._numbers])

    def __eq__(self, other):
        return isinstance(other, Row) and self._numbers == other._numbers

    def __len__(self):
        return len(self._numbers)

    def __str__(self):
        return str(self.text())

    def __repr__(self):
        return f"Row({self.text()})"


def reciprocal(row):
    """The row whose product with this row is 1; raises DividedByZero if there is none."""
    return Row(reciprocal_of(row.numbers()))


def check_unit_row(row):
    """Refuses a row that does not begin with 1."""
    if row.number(0) != ONE:
        raise NotOne(row.number(0))


def row_power(row, t):
    """The row u^t, for a row u that begins with 1."""
    check_unit_row(row)
    check_number(t)
    return Row(unit_power(row.numbers(), t))


def row_log(row):
    """The row log u, for a row u that begins with 1."""
    check_unit_row(row)
    return Row(unit_log(row.numbers()))
