"""Outlooks: which answers about two steps hold whatever comes behind their order."""

from creepclocks.checks import HIGHEST_ORDER, check_orders, check_slow
from creepclocks.errors import InvalidOrder, IsStill, NotOpen
from creepclocks.likeness import is_alike, three_numbers
from creepclocks.partings import bare_flip
from creepclocks.ratios import MINUS_ONE, ONE, ZERO, difference_of, product_of, quotient_of, sum_of
from creepclocks.steps import Step


def open_order(step):
    """The least order at which steps alike to this one may become unlike, None if there is none.

    An order that is not above that of the step tells that this was decided before.
    """
    if step.kind in ("crush", "stretch"):
        return None
    flat = three_numbers(step)[0]
    if flat is not None:
        return 2 * flat + 1
    if step.kind == "flip" and step.order % 2 == 1:
        # The number at the next place, which is even, is free in a bare flip.
        return step.order + 2
    return step.order + 1


def outlook(one, other):
    """Whether two steps stay alike behind their order: sure, never or open."""
    if not is_alike(one, other):
        return "never"
    order = open_order(one)
    return "sure" if order is None or order <= one.order else "open"


def wanted_order(one, other):
    """The least order with goings-on that are alike, and others that are not."""
    if outlook(one, other) != "open":
        raise NotOpen()
    return open_order(one)


def gone_on_to(step, order):
    """The going-on of a step with zeros, but of a bare flip one that is bare, too."""
    if step.kind == "flip" and three_numbers(step)[0] is None:
        evens = step.numbers()[1::2]
        return bare_flip(evens + [ZERO] * (order // 2 - len(evens)), order)
    return step.gone_on([ZERO] * (order - step.order))


def with_last(step, further):
    """The step with a fraction added to its last number."""
    numbers = step.numbers()
    numbers[-1] = sum_of(numbers[-1], further)
    return Step(numbers)


def log_shift(step, growth):
    """What has to be added to the last number of a step for its log number to grow so much."""
    _, strength, _ = three_numbers(step)
    further = product_of(growth, product_of(strength, strength))
    # The slow part of a flip falls where the flip itself grows.
    return further if step.kind == "flip" else product_of(further, MINUS_ONE)


def goings_on(one, other):
    """The pair of two pairs of goings-on to the wanted order: the first alike, the second not."""
    order = wanted_order(one, other)
    if order > HIGHEST_ORDER:
        raise InvalidOrder(order)
    mine, yours = gone_on_to(one, order), gone_on_to(other, order)
    flat, _, log = three_numbers(mine)
    if flat is not None:
        missing = difference_of(log, three_numbers(yours)[2])
        yours = with_last(yours, log_shift(yours, missing))
    return ((mine, yours), (mine, with_last(yours, ONE)))


def trade_on(one, other):
    """Whether two creeps have goings-on that trade, to each higher order."""
    check_orders(one, other)
    check_slow(one)
    check_slow(other)
    if one.kind == "still" or other.kind == "still":
        raise IsStill(one.order)
    return one.flat == other.flat and one.power(quotient_of(other.strength, one.strength)) == other
