"""Reading the texts of rows, steps and drifts."""

from creepclocks.checks import HIGHEST_ORDER, LOWEST_ORDER
from creepclocks.drifts import Drift
from creepclocks.errors import InvalidText
from creepclocks.ratios import ONE, ZERO, read_fraction
from creepclocks.rows import Row
from creepclocks.steps import Step


def word_at(words, at):
    """The word with an index; behind the last one the empty word, which can stand nowhere."""
    return words[at] if at < len(words) else ""


def read_between(text, low, high):
    """The integer from low to high with this text, None if there is none."""
    for value in range(low, high + 1):
        if text == str(value):
            return value
    return None


def read_letter(text):
    """The place of the letter x with its exponent, None if a text is no such thing."""
    if text == "x":
        return 1
    if not text.startswith("x^"):
        return None
    return read_between(text[2:], 2, HIGHEST_ORDER)


def read_factor(text):
    """The fraction ahead of the sign * in a term, None if the text cannot stand there."""
    number = read_fraction(text)
    return None if number == ONE else number


def read_term(text):
    """The pair of the place and the positive fraction of a term, None if the text is no term."""
    factor, star, letter = text.rpartition("*")
    if star != "":
        number = read_factor(factor)
        place = read_letter(letter)
    elif text.startswith("x"):
        number = ONE
        place = read_letter(text)
    else:
        number = read_fraction(text)
        place = 0
    if place is None or number is None or number[0] <= 0:
        return None
    return (place, number)


def read_terms(words, lowest):
    """The list of the pairs (place, number) at the beginning of the words, with places from lowest on."""
    if words[0] == "0":
        return []
    if words[0].startswith("-"):
        terms = [signed_term("-", words[0][1:], lowest, 0)]
    else:
        terms = [signed_term("+", words[0], lowest, 0)]
    at = 1
    while word_at(words, at) in ("+", "-"):
        terms.append(signed_term(words[at], word_at(words, at + 1), terms[-1][0] + 1, at + 1))
        at += 2
    return terms


def signed_term(sign, text, lowest, at):
    """The pair (place, number) of a term with its sign; at is the index of its word."""
    term = read_term(text)
    if term is None or term[0] < lowest:
        raise InvalidText(at)
    place, (upper, lower) = term
    return (place, (-upper if sign == "-" else upper, lower))


def read_numbers(text, first):
    """The list of the numbers at the places from first up to the order."""
    if not isinstance(text, str):
        raise InvalidText(0)
    words = text.split(" ")
    terms = read_terms(words, first)
    at = max(1, 2 * len(terms) - 1)
    if word_at(words, at) != "to":
        raise InvalidText(at)
    last_place = terms[-1][0] if len(terms) > 0 else 0
    order = read_between(word_at(words, at + 1), max(LOWEST_ORDER, last_place), HIGHEST_ORDER)
    if order is None:
        raise InvalidText(at + 1)
    if len(words) > at + 2:
        raise InvalidText(at + 2)
    found = dict(terms)
    return [found.get(place, ZERO) for place in range(first, order + 1)]


def read_row(text):
    """The row with a text."""
    return Row(read_numbers(text, 0))


def read_step(text):
    """The step with a text."""
    return Step(read_numbers(text, 1))


def read_drift(text):
    """The drift with a text."""
    return Drift(read_numbers(text, 2))
