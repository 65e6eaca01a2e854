"""Stairs: lists of fractions in reduced form, with what they are made of.

Stairs are a list of pairs (line, making), by ascending fronts. The front of a line is the index of its first number
that is not 0; this is 1 there, and all other lines have 0 there. A making has the factors by which the lists that were
taken, in the order in which they were taken, give the line.
"""

from creepclocks.ratios import ONE, ZERO, difference_of, negative_of, quotient_of
from creepclocks.series import differences_of, dot, is_zero, least_place, mixed, multiples_of


def front_of(line):
    return least_place(line, 0)


def lines_of(stairs):
    """The list of the lines."""
    return [line for line, _ in stairs]


def fronts_of(stairs):
    """The ascending fronts of the lines."""
    return [front_of(line) for line in lines_of(stairs)]


def left_over(stairs, numbers):
    """What is left of a list when the lines are taken away, each times the number at its front."""
    lines, fronts = lines_of(stairs), fronts_of(stairs)
    factors = [numbers[front] for front in fronts]
    found = []
    for at, number in enumerate(numbers):
        # At the fronts nothing is left, so the sum is not needed there.
        have = number if at in fronts else dot(factors, [line[at] for line in lines])
        found.append(difference_of(number, have))
    return found


def is_new(stairs, numbers):
    """Whether a list is no sum of multiples of those that were taken."""
    return not is_zero(left_over(stairs, numbers))


def makings_of(stairs, numbers):
    """The factors by which the lists that were taken give the lines that are taken away from a list."""
    if len(stairs) == 0:
        return []
    return mixed([numbers[front] for front in fronts_of(stairs)], [making for _, making in stairs])


def without(have, other, factor):
    """A list less another one times a factor."""
    return differences_of(have, multiples_of(other, factor))


def with_list(stairs, numbers):
    """The stairs that have taken a further list, which is no sum of multiples of those taken so far."""
    rest = left_over(stairs, numbers)
    front = front_of(rest)
    part = quotient_of(ONE, rest[front])
    line = multiples_of(rest, part)
    making = multiples_of([negative_of(factor) for factor in makings_of(stairs, numbers)] + [ONE], part)
    found = [(without(other, line, other[front]), without(made + [ZERO], making, other[front]))
             for other, made in stairs]
    found.append((line, making))
    return sorted_stairs(found)


def sorted_stairs(stairs):
    """The stairs by ascending fronts."""
    by_front = {front_of(line): (line, making) for line, making in stairs}
    return [by_front[front] for front in sorted(by_front)]
