"""Folds: slow steps with one place of x^m for each place of a lower step."""

from creepclocks.checks import MOST_TIMES, check_creep, check_order, check_slow, check_times
from creepclocks.clocks import clock_of
from creepclocks.errors import NotFolded
from creepclocks.ratios import ZERO, product_of, quotient_of
from creepclocks.series import unit_power
from creepclocks.steps import Step
from creepclocks.straight import creep_renamer, plain_creep


def fold(step, times):
    """The times-fold of a slow step."""
    check_slow(step)
    check_times(times, 1, MOST_TIMES)
    order = times * step.order
    check_order(order)
    found = [ZERO] * order
    for at, number in enumerate(unit_power(step.numbers(), (1, times))):
        found[at * times] = number
    return Step(found)


def unfold(step, times):
    """The pair of the plain creep that lies under a creep, and the own renamer of the creep."""
    check_creep(step)
    check_times(times, 1, MOST_TIMES)
    if step.order % times != 0 or step.order // times < 2:
        raise NotFolded(step.order)
    if step.flat % times != 0:
        raise NotFolded(step.flat)
    many = (times, 1)
    clock = clock_of(step)
    log = None if clock.log is None else quotient_of(clock.log, many)
    under = plain_creep(step.order // times, step.flat // times, product_of(step.strength, many), log)
    return (under, creep_renamer(step, clock))
