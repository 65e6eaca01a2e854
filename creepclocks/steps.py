"""Steps: maps near the place 0, which they keep, seen to their order."""

from creepclocks.checks import (
    check_cut, check_number, check_order, check_orders, check_place, check_slow, check_times, check_turnable,
    checked_numbers,
)
from creepclocks.errors import InvalidPower
from creepclocks.ratios import MINUS_ONE, MOST_POWER, ONE, ZERO, is_between, is_fraction
from creepclocks.rows import Row
from creepclocks.series import (
    binomial_power, differences, done_times, is_zero, least_place, put_behind, still_numbers, table_lines, turned_back,
)
from creepclocks.texts import numbers_text


def kind_of(numbers):
    """The kind of the step with these numbers."""
    lead = numbers[0]
    bent = not is_zero(numbers[1:])
    if lead == ZERO:
        return "crush" if bent else "nothing"
    if lead == ONE:
        return "creep" if bent else "still"
    return "flip" if lead == MINUS_ONE else "stretch"


class Step:
    """A step, given by the list of its numbers at the places 1 to its order."""

    def __init__(self, numbers):
        self._numbers = checked_numbers(numbers, 0)
        self.order = len(numbers)
        self.lead = self._numbers[0]
        self.kind = kind_of(self._numbers)
        self.height = least_place(self._numbers, 1)
        self.flat = None
        self.strength = None
        if self.kind == "creep":
            self.flat = least_place(self._numbers[1:], 1)
            self.strength = self._numbers[self.flat]
        if self.kind == "crush":
            self.strength = self._numbers[self.height - 1]

    @staticmethod
    def still(order):
        """The still step of an order."""
        check_order(order)
        return Step(still_numbers(order))

    @staticmethod
    def scaling(lead, order):
        """The step lead x of an order."""
        check_number(lead)
        check_order(order)
        return Step([lead] + [ZERO] * (order - 1))

    def numbers(self):
        """The list of the numbers."""
        return list(self._numbers)

    def number(self, place):
        """The number at a place."""
        check_place(place, 1, self.order)
        return self._numbers[place - 1]

    def power(self, t):
        """The step done t times for an integer t, its t-th power for a fraction t."""
        if is_between(t, -MOST_POWER, MOST_POWER):
            if t < 0:
                check_turnable(self)
                return Step(done_times(turned_back(self._numbers), -t))
            return Step(done_times(self._numbers, t))
        if not is_fraction(t):
            raise InvalidPower(t)
        check_slow(self)
        found = differences(still_numbers(self.order), table_lines(self._numbers))
        return Step(binomial_power(found, t))

    def renamed(self, step):
        """This step renamed by another one."""
        check_orders(self, step)
        return step * self * ~step

    def cut(self, order):
        """The step with the numbers up to a lower order."""
        check_cut(self.order, order)
        return Step(self._numbers[:order])

    def gone_on(self, numbers):
        """The going-on with these further numbers, the step itself if there are none."""
        further = checked_numbers(numbers, self.order)
        return Step(self._numbers + further) if len(further) > 0 else self

    def as_row(self):
        """The row with these numbers, and 0 at the place 0."""
        return Row([ZERO] + self._numbers)

    def text(self):
        """The text of the step."""
        return numbers_text(self._numbers, 1)

    def __mul__(self, other):
        check_orders(self, other)
        return Step(put_behind(self._numbers, other.numbers()))

    def __invert__(self):
        check_turnable(self)
        return Step(turned_back(self._numbers))

    def __eq__(self, other):
        return isinstance(other, Step) and self._numbers == other._numbers

    def __len__(self):
        return len(self._numbers)

    def __str__(self):
        return str(self.text())

    def __repr__(self):
        return f"Step({self.text()})"


def first_difference(one, other):
    """The least place at which two steps differ, None if they are equal."""
    check_orders(one, other)
    for at, (mine, yours) in enumerate(zip(one.numbers(), other.numbers())):
        if mine != yours:
            return at + 1
    return None


def trade(one, other):
    """Whether two steps trade."""
    return one * other == other * one


def exchange(one, other):
    """The exchange of two steps."""
    return one * other * ~one * ~other


def orbit(step, many):
    """The step done 0, 1, .. and many - 1 times, one by one."""
    check_times(many, 0, MOST_POWER)
    done = Step.still(step.order)
    for at in range(many):
        if at > 0:
            done = step * done
        yield done
