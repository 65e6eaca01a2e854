"""Partings: steps as pure parts and slow parts that trade places."""

from creepclocks.checks import check_fractions, check_order, check_turnable, is_choice
from creepclocks.errors import InvalidFraction
from creepclocks.papers import Paper, unequal_sides
from creepclocks.ratios import MINUS_ONE, ONE, ZERO, difference_of, product_of, quotient_of
from creepclocks.series import differences_of, dot, multiples_of, still_numbers, table_lines
from creepclocks.steps import Step


class Parting(Paper):
    """The claim that pure and slow are the parts of step, and that straightener straightens pure."""

    def __init__(self, step, pure, slow, straightener):
        Paper.__init__(self, "parting")
        self.step = step
        self.pure = pure
        self.slow = slow
        self.straightener = straightener

    def wrong(self):
        """None if the paper is right, otherwise the pair (check, place) of its first check that fails."""
        step, pure, slow, straightener = self.step, self.pure, self.slow, self.straightener
        if not step.order == pure.order == slow.order == straightener.order:
            return (0, 0)
        if slow.lead != ONE:
            return (1, 1)
        if straightener.lead == ZERO:
            return (2, 1)
        straight = Step.scaling(pure.lead, step.order)
        return (unequal_sides(3, pure * slow, step) or unequal_sides(4, slow * pure, step)
                or unequal_sides(5, straightener * pure, straight * straightener))


def slow_part(step):
    """The slow part of a turnable step."""
    if step.kind == "stretch":
        return Step.still(step.order)
    if step.kind == "flip":
        return (step * step).power((1, 2))
    return step


def flip_straightener(flip):
    """The straightener of a bare flip."""
    return Step(multiples_of(differences_of(still_numbers(flip.order), flip.numbers()), (1, 2)))


def stretch_straightener(stretch):
    """The straightener of a stretch."""
    lines = table_lines(stretch.numbers())
    found = [ONE]
    for at in range(1, stretch.order):
        have = dot(found, [line[at] for line in lines])
        found.append(quotient_of(have, difference_of(stretch.lead, lines[at][at])))
    return Step(found)


def parted(step):
    """The parting of a turnable step."""
    check_turnable(step)
    slow = slow_part(step)
    if step.kind == "flip":
        pure = step * ~slow
        return Parting(step, pure, slow, flip_straightener(pure))
    still = Step.still(step.order)
    if step.kind == "stretch":
        return Parting(step, step, slow, stretch_straightener(step))
    return Parting(step, still, slow, still)


def is_pure(step):
    """Whether any step is pure."""
    if step.kind == "flip":
        return (step * step).kind == "still"
    return step.kind in ("still", "stretch")


def bare_flip(numbers, order):
    """The bare flip of an order with these numbers at the even places."""
    check_order(order)
    if not is_choice(numbers, order // 2):
        raise InvalidFraction(-1)
    check_fractions(numbers)
    found = [MINUS_ONE]
    for place in range(2, order + 1):
        if place % 2 == 0:
            found.append(numbers[place // 2 - 1])
        else:
            # Done twice it has to be still, and a further number d at this place takes 2 d from what stands there.
            guess = found + [ZERO]
            twice = dot(guess, [line[-1] for line in table_lines(guess)])
            found.append(product_of(twice, (1, 2)))
    return Step(found)
