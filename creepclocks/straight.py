"""Straight forms of steps, and the renamers that lead to them."""

from creepclocks.checks import check_number, check_order
from creepclocks.clocks import clock_of
from creepclocks.drifts import Drift, flow_of
from creepclocks.errors import InvalidFlat, InvalidNumber
from creepclocks.partings import parted
from creepclocks.ratios import MINUS_ONE, ONE, ZERO, difference_of, is_between, negative_of, product_of, quotient_of
from creepclocks.series import multiples_of, multiplied, row_behind, table_lines, unit_log, unit_power
from creepclocks.steps import Step


def plain_creep(order, flat, strength, log):
    """The plain creep with these three numbers."""
    check_order(order)
    if not is_between(flat, 1, order - 1):
        raise InvalidFlat(flat)
    check_number(strength)
    if strength == ZERO:
        raise InvalidNumber(strength)
    if order > 2 * flat:
        check_number(log)
    elif log is not None:
        raise InvalidNumber(log)
    # The drift is a geometric series from the place flat + 1 on, in steps of flat places.
    factor = ZERO if log is None else negative_of(product_of(strength, log))
    number = strength
    drift = [ZERO] * (order - 1)
    for at in range(flat - 1, order - 1, flat):
        drift[at] = number
        number = product_of(number, factor)
    return flow_of(Drift(drift))


def creep_renamer(creep, clock):
    """The own renamer of a creep with this clock."""
    # The clock of the plain creep put into the renamer is the clock of the creep and a constant. With x q for the
    # renamer, u for q^-flat, a for the strength and r for the log number, this says that u + a r x^flat log(u) is
    # x^flat times the clock, divided by its first number; the constant stands where the number of the log stood.
    flat = creep.flat
    known = multiples_of(clock.numbers(), quotient_of(ONE, clock.number(-flat)))
    found = known[:flat]
    if clock.log is not None:
        # With this constant the renamer has 0 at the place flat + 1.
        missing = unit_power(found + [ZERO], (-1, flat))[flat]
        found.append(product_of((flat, 1), missing))
        factor = product_of(creep.strength, clock.log)
        for at in range(flat + 1, len(known)):
            found.append(difference_of(known[at], product_of(factor, unit_log(found)[at - flat])))
    return Step(unit_power(found, (-1, flat)) + [ZERO] * flat)


def straight_creep(creep):
    """The pair of the straight form and the own renamer of a creep."""
    clock = clock_of(creep)
    return (plain_creep(creep.order, creep.flat, creep.strength, clock.log), creep_renamer(creep, clock))


def crush_renamer(crush):
    """The own renamer of a crush."""
    # With x q for the renamer, and a x^height g for the crush, q^height is g times q behind the crush.
    height = crush.height
    lines = table_lines(crush.numbers())
    g = multiples_of(crush.numbers()[height - 1:], quotient_of(ONE, crush.strength))
    many = len(g)
    found = [ONE] + [ZERO] * (many - 1)
    right = 1
    while right < many:
        further = row_behind(found, lines)[:many]
        found = unit_power(multiplied(g, further), (1, height))
        # What is not right yet begins at so many times its place when it is put behind the crush.
        right = right * height
    return Step(found + [ZERO] * (height - 1))


def straight_flip(flip):
    """The pair of the straight form and the own renamer of a flip."""
    paper = parted(flip)
    turn = Step.scaling(MINUS_ONE, flip.order)
    if paper.slow.kind == "still":
        return (turn, paper.straightener)
    # The straightener has the lead 1, so the slow part keeps its three numbers.
    plain, renamer = straight_creep(paper.slow.renamed(paper.straightener))
    return (turn * plain, renamer * paper.straightener)


def straight_crush(crush):
    """The pair of the straight form and the own renamer of a crush."""
    form = [ZERO] * crush.order
    form[crush.height - 1] = crush.strength
    return (Step(form), crush_renamer(crush))


def straight_form(step):
    """The pair of the straight form and the own renamer of any step."""
    if step.kind == "creep":
        return straight_creep(step)
    if step.kind == "flip":
        return straight_flip(step)
    if step.kind == "crush":
        return straight_crush(step)
    if step.kind == "stretch":
        return (Step.scaling(step.lead, step.order), parted(step).straightener)
    return (step, Step.still(step.order))
