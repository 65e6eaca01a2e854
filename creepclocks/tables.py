"""Tables: the matrices of steps, with lines and places from 1 on."""

from creepclocks.checks import check_number, check_order, check_orders, check_place, is_listing
from creepclocks.errors import InvalidTable, NotATable, NotUnit
from creepclocks.ratios import ONE, ZERO, is_fraction
from creepclocks.series import binomial_log, binomial_power, differences, mixed, table_lines
from creepclocks.steps import Step


def is_line(value, many):
    """Whether any value is a list of so many fractions."""
    return is_listing(value) and len(value) == many and all([is_fraction(number) for number in value])


def checked_lines(lines):
    """New lists of the lines of a table."""
    if not is_listing(lines):
        raise InvalidTable(-1)
    check_order(len(lines))
    for at, line in enumerate(lines):
        if not is_line(line, len(lines)):
            raise InvalidTable(at)
    return [list(line) for line in lines]


class Table:
    """A table, given by the list of its lines, each a list of its numbers."""

    def __init__(self, lines):
        self._lines = checked_lines(lines)
        self.order = len(lines)

    def lines(self):
        """The list of the lists of numbers."""
        return [list(line) for line in self._lines]

    def power_line(self, line):
        """The list of the numbers of a line."""
        check_place(line, 1, self.order)
        return list(self._lines[line - 1])

    def number(self, line, place):
        """The number of a line at a place."""
        check_place(line, 1, self.order)
        check_place(place, 1, self.order)
        return self._lines[line - 1][place - 1]

    def __mul__(self, other):
        check_orders(self, other)
        others = other.lines()
        return Table([mixed(line, others) for line in self._lines])

    def __eq__(self, other):
        return isinstance(other, Table) and self._lines == other._lines

    def __len__(self):
        return len(self._lines)

    def __repr__(self):
        return f"Table({self.order})"


def table_of(step):
    """The table of any step."""
    return Table(table_lines(step.numbers()))


def step_of_table(table):
    """The step with this table."""
    lines = table.lines()
    for i, wanted in enumerate(table_lines(lines[0])):
        for j, number in enumerate(wanted):
            if lines[i][j] != number:
                raise NotATable(i + 1, j + 1)
    return Step(lines[0])


def unit_line(at, order):
    """The line of the unit matrix with the 1 at an index."""
    return [ONE if j == at else ZERO for j in range(order)]


def check_unit(lines):
    """Refuses the lines of a table that is not unit."""
    for i, line in enumerate(lines):
        for j, wanted in enumerate(unit_line(i, i + 1)):
            if line[j] != wanted:
                raise NotUnit(i + 1, j + 1)


def line_powers(lines):
    """For each line of T = I + M, with these lines of T, the list of this line of I, M, M^2 and so on."""
    return [differences(unit_line(at, len(lines)), lines) for at in range(len(lines))]


def table_power(table, t):
    """The table T^t of a unit table."""
    lines = table.lines()
    check_unit(lines)
    check_number(t)
    return Table([binomial_power(found, t) for found in line_powers(lines)])


def table_log(table):
    """The table log T of a unit table."""
    lines = table.lines()
    check_unit(lines)
    return Table([binomial_log(found) for found in line_powers(lines)])
