"""What several test files use: plain polynomials over fractions.Fraction, worked out apart from the package."""

from fractions import Fraction

from creepclocks.drifts import Drift
from creepclocks.rows import Row
from creepclocks.steps import Step

ANY_VALUES = [None, True, False, 0, 1, -1, 10 ** 60, "", "x", "1", "1/2", (), (1,), (1, 2, 3), (1, 0), (1, -2), (2, 4),
              (True, 1), (1, True), (0, 2), ("1", 1), (None, 1), [], [1, 2], [(1, 1)], ((1, 1), (1, 2)),
              [[], [[]]], Row([(1, 1), (0, 1), (0, 1)]), Step([(1, 1), (1, 1)])]


def pair(value):
    """The tuple of an integer, a Fraction, or a string like 1/2."""
    value = Fraction(value)
    return (value.numerator, value.denominator)


def pairs(*values):
    return [pair(value) for value in values]


def numbers_of(text):
    """The tuples of a string with numbers between spaces."""
    return pairs(*text.split())


def step(text):
    return Step(numbers_of(text))


def row(text):
    return Row(numbers_of(text))


def drift(text):
    return Drift(numbers_of(text))


def fractions_of(numbers):
    return [Fraction(*number) for number in numbers]


def poly(thing):
    """The list of Fractions at the places 0 to the order, of a row, a step or a drift."""
    numbers = fractions_of(thing.numbers())
    return [Fraction(0)] * (thing.order + 1 - len(numbers)) + numbers


def times(one, other):
    """The product of two polys, cut at their order."""
    found = [Fraction(0)] * len(one)
    for i, a in enumerate(one):
        for j in range(len(one) - i):
            found[i + j] += a * other[j]
    return found


def plus(one, other, factor=1):
    return [a + factor * b for a, b in zip(one, other)]


def unit(order, place):
    return [Fraction(int(at == place)) for at in range(order + 1)]


def put_in(outer, inner):
    """outer(inner(x)) by Horner's rule, cut at the order."""
    found = [Fraction(0)] * len(outer)
    for number in reversed(outer):
        found = times(found, inner)
        found[0] += number
    return found


def way_back(numbers):
    """The poly g with f(g(x)) = x, each place found by trying what is missing there."""
    order = len(numbers) - 1
    found = [Fraction(0)] * (order + 1)
    for place in range(1, order + 1):
        missing = unit(order, 1)[place] - put_in(numbers, found)[place]
        found[place] = missing / numbers[1]
    return found


def done_times(numbers, n):
    """A poly done n times, one time after the other."""
    part = numbers if n >= 0 else way_back(numbers)
    found = unit(len(numbers) - 1, 1)
    for _ in range(abs(n)):
        found = put_in(part, found)
    return found


def renamed_poly(numbers, by):
    return put_in(put_in(by, numbers), way_back(by))


def one_over(numbers):
    """The series whose product with this one is 1, by long division."""
    found, left = [], unit(len(numbers) - 1, 0)
    for place in range(len(numbers)):
        found.append(left[place] / numbers[0])
        shifted = [Fraction(0)] * place + numbers
        left = [a - found[place] * b for a, b in zip(left, shifted)]
    return found


def log_of(numbers):
    """The log of a series that begins with 1, by the sum w - w^2/2 + w^3/3 - .."""
    rest = [Fraction(0)] + numbers[1:]
    found, part = [Fraction(0)] * len(numbers), unit(len(numbers) - 1, 0)
    for j in range(1, len(numbers)):
        part = times(part, rest)
        found = plus(found, part, Fraction((-1) ** (j + 1), j))
    return found


def tally_put_in(tally, numbers):
    """The dict from places to what stands there in a tally put into a poly, without log(x) and log of the lead.

    The places are those up to the order less the flat and 1, up to which all is known.
    """
    order, flat = len(numbers) - 1, tally.flat
    base = numbers[1:]
    found = {place: Fraction(0) for place in range(-flat, order - flat)}
    for at, number in enumerate(fractions_of(tally.numbers())):
        e = at - flat
        if e == 0:
            part = log_of([number / base[0] for number in base])
        else:
            part = unit(order - 1, 0)
            for _ in range(abs(e)):
                part = times(part, base if e > 0 else one_over(base))
        for i, factor in enumerate(part):
            if e + i in found:
                found[e + i] += number * factor
    return found


def slope_of(numbers):
    return [place * number for place, number in enumerate(numbers)][1:] + [Fraction(0)]


def as_step(numbers):
    return Step(pairs(*numbers[1:]))


def as_row(numbers):
    return Row(pairs(*numbers))


def as_drift(numbers):
    return Drift(pairs(*numbers[2:]))


def caught(act, *args, **named):
    """The error that a call raises, as its class's name and its attributes other than code."""
    try:
        act(*args, **named)
    except (ValueError, ArithmeticError, LookupError) as error:
        told = {name: value for name, value in vars(error).items() if name != "code"}
        if error.code != type(error).__name__:
            raise AssertionError(f"{error!r} has the code {error.code}")
        return (error.code, told)
    return None
