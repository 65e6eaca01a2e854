"""Clocks: tallies that a creep moves on by exactly 1, and rows summed along creeps."""

from creepclocks.checks import check_creep, check_flats, check_orders, check_times
from creepclocks.drifts import Drift, flow_of
from creepclocks.errors import NotAClock
from creepclocks.papers import Paper
from creepclocks.ratios import MOST_POWER, ONE, ZERO, difference_of, product_of
from creepclocks.rows import Row
from creepclocks.series import mixed, reciprocal_of, row_behind, solved, sums_of, table_lines
from creepclocks.tallies import Tally, letters_behind


class Summed(Paper):
    """The claim that tally is row summed along creep."""

    def __init__(self, creep, row, tally):
        Paper.__init__(self, "summed")
        self.creep = creep
        self.row = row
        self.tally = tally

    def wrong(self):
        """None if the paper is right, otherwise the pair (check, place) of its first check that fails."""
        if not self.creep.order == self.row.order == self.tally.order:
            return (0, 0)
        if self.creep.kind != "creep":
            return (1, 1)
        if self.creep.flat != self.tally.flat:
            return (2, 0)
        wanted = self.row.numbers()
        for place, number in enumerate(gain(self.tally, self.creep)):
            if number != wanted[place]:
                return (3, place)
        return None


def letter_gains(creep):
    """The gains along a creep of the powers of x at the places of its tallies, and of log(x)."""
    flat = creep.flat
    gains = [part[flat:] for part in letters_behind(flat, creep.numbers())]
    for place in range(1, len(gains) - flat):
        own = gains[place + flat]
        own[place] = difference_of(own[place], ONE)
    return gains


def gain(tally, creep):
    """The list of the numbers of the gain of a tally along a creep, from the place 0 on."""
    check_orders(tally, creep)
    check_creep(creep)
    check_flats(tally, creep)
    return mixed(tally.numbers(), letter_gains(creep))


def along(row, creep):
    """The tally that is a row summed along a creep."""
    check_orders(row, creep)
    check_creep(creep)
    wanted = row.numbers()[:creep.order - creep.flat]
    return Tally(creep.flat, solved(letter_gains(creep), wanted))


def share(row, creep):
    """The share of a row along a creep, None if it is not seen."""
    return along(row, creep).log


def clock_of(creep):
    """The clock of a creep."""
    return along(Row.constant(ONE, creep.order), creep)


def creep_of(tally):
    """The creep with this clock."""
    flat, numbers = tally.flat, tally.numbers()
    if numbers[0] == ZERO:
        raise NotAClock()
    slopes = [product_of((at - flat, 1), number) for at, number in enumerate(numbers)]
    if tally.log is not None:
        slopes[flat] = tally.log
    # The slope of the clock, which begins at the place -flat - 1, is 1 divided by the drift.
    return flow_of(Drift([ZERO] * (flat - 1) + reciprocal_of(slopes)))


def places_sum(row, step, many):
    """The sum of a row behind a step done 0, 1, .. and many - 1 times."""
    check_orders(row, step)
    check_times(many, 0, MOST_POWER)
    lines = table_lines(step.numbers())
    total = [ZERO] * len(row)
    for _ in range(many):
        total = sums_of(row.numbers(), row_behind(total, lines))
    return Row(total)
