"""The texts of rows, steps and drifts."""

from creepclocks.ratios import ONE, ZERO, fraction_text


def letter_text(place):
    """The letter x with its exponent, for a place from 1 on."""
    return "x" if place == 1 else f"x^{place}"


def term_text(number, place):
    """The term for a positive fraction at a place."""
    if place == 0:
        return fraction_text(number)
    if number == ONE:
        return letter_text(place)
    return f"{fraction_text(number)}*{letter_text(place)}"


def numbers_text(numbers, first):
    """The text of the numbers at the places from first up to the order."""
    words = []
    for at, number in enumerate(numbers):
        if number == ZERO:
            continue
        upper, lower = number
        term = term_text((abs(upper), lower), first + at)
        if len(words) == 0:
            words.append(f"-{term}" if upper < 0 else term)
        else:
            words.append("-" if upper < 0 else "+")
            words.append(term)
    if len(words) == 0:
        words.append("0")
    words.append("to")
    words.append(str(first + len(numbers) - 1))
    return " ".join(words)
