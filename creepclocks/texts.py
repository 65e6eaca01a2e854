"""The texts of rows, steps, drifts and tallies."""

from creepclocks.ratios import ONE, ZERO, fraction_text


def letter_text(place):
    """The letter x with its exponent, which is no letter at all at the place 0."""
    if place == 0:
        return ""
    return "x" if place == 1 else f"x^{place}"


def term_text(number, letter):
    """The term for a positive fraction with a letter, or without one."""
    if letter == "":
        return fraction_text(number)
    if number == ONE:
        return letter
    return f"{fraction_text(number)}*{letter}"


def term_words(numbers, letters):
    """The list of the words for numbers with their letters."""
    words = []
    for number, letter in zip(numbers, letters):
        if number == ZERO:
            continue
        upper, lower = number
        term = term_text((abs(upper), lower), letter)
        if len(words) == 0:
            words.append(f"-{term}" if upper < 0 else term)
        else:
            words.append("-" if upper < 0 else "+")
            words.append(term)
    return words if len(words) > 0 else ["0"]


def numbers_text(numbers, first):
    """The text of the numbers at the places from first up to the order."""
    last = first + len(numbers) - 1
    words = term_words(numbers, [letter_text(place) for place in range(first, last + 1)])
    return " ".join([*words, "to", str(last)])


def tally_text(numbers, first):
    """The text of the numbers of a tally, whose first place is below 0."""
    last = first + len(numbers) - 1
    words = term_words(numbers, ["log(x)" if place == 0 else letter_text(place) for place in range(first, last + 1)])
    return " ".join([*words, "from", str(first), "to", str(last)])
