"""Words: products of powers of slow steps with names."""

from creepclocks.checks import check_order, check_slow_of, is_listing
from creepclocks.drifts import drift_of, series_of
from creepclocks.errors import InvalidWord, UnknownName
from creepclocks.ratios import ZERO, is_fraction, sum_of
from creepclocks.series import flowed, still_numbers
from creepclocks.steps import Step

LETTERS = "abcdefghijklmnopqrstuvwxyz"
LONGEST_NAME = 6
LONGEST_WORD = 24


def is_name(value):
    """Whether any value is a name."""
    if not isinstance(value, str) or not 1 <= len(value) <= LONGEST_NAME:
        return False
    return all([letter in LETTERS for letter in value])


def is_pair(value):
    """Whether any value is a pair of a name and a fraction."""
    return isinstance(value, tuple) and len(value) == 2 and is_name(value[0]) and is_fraction(value[1])


def is_word(value):
    """Whether any value is a word."""
    return is_listing(value) and len(value) <= LONGEST_WORD and all([is_pair(item) for item in value])


def word_numbers(word, fields, order):
    """What a word gives, as a series of the order, by a dict from its names to the series of their drifts."""
    found = [ZERO] + still_numbers(order)
    for name, t in word:
        found = flowed(found, fields[name], t)
    return found


def worked_out(word, steps, *, order):
    """The step that a word gives with a step for each of its names."""
    check_order(order)
    if not is_word(word):
        raise InvalidWord(0)
    for name, _ in word:
        if name not in steps:
            raise UnknownName(name)
    fields = {}
    for name in sorted({item[0] for item in word}):
        check_slow_of(order, steps[name])
        fields[name] = series_of(drift_of(steps[name]))
    return Step(word_numbers(word, fields, order)[1:])


def sum_in(word, wanted):
    """The sum of the fractions of a name in a word."""
    total = ZERO
    for name, t in word:
        if name == wanted:
            total = sum_of(total, t)
    return total


def sums(words, unknown):
    """The list with a list for each word, which has the sum of the fractions of each unknown name."""
    return [[sum_in(word, name) for name in unknown] for word in words]
