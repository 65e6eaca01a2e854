"""Fractions: tuples (p, q) of integers in lowest terms, with q at least 1."""

from math import gcd

from creepclocks.errors import DividedByZero, InvalidPower

ZERO = (0, 1)
ONE = (1, 1)
MINUS_ONE = (-1, 1)
DIGITS = "0123456789"
MOST_DIGITS = 60
MOST_POWER = 64


def is_whole(value):
    """Whether any value is an integer; True and False are none."""
    return isinstance(value, int) and not isinstance(value, bool)


def is_between(value, low, high):
    """Whether any value is an integer from low to high."""
    return is_whole(value) and low <= value <= high


def is_fraction(value):
    """Whether any value is a fraction."""
    if not isinstance(value, tuple) or len(value) != 2:
        return False
    upper, lower = value
    if not is_whole(upper) or not is_whole(lower):
        return False
    return lower >= 1 and gcd(upper, lower) == 1


def ratio(upper, lower):
    """The fraction upper/lower of two integers."""
    if lower == 0:
        raise DividedByZero()
    shared = gcd(upper, lower)
    if lower < 0:
        shared = -shared
    return (upper // shared, lower // shared)


def sum_of(one, other):
    """one + other."""
    return ratio(one[0] * other[1] + other[0] * one[1], one[1] * other[1])


def difference_of(one, other):
    """one - other."""
    return ratio(one[0] * other[1] - other[0] * one[1], one[1] * other[1])


def product_of(one, other):
    """one * other."""
    return ratio(one[0] * other[0], one[1] * other[1])


def quotient_of(one, other):
    """one / other."""
    return ratio(one[0] * other[1], one[1] * other[0])


def negative_of(value):
    """-value."""
    return (-value[0], value[1])


def raised(base, n):
    """The n-th power of an integer, for n from 0 on."""
    found = 1
    for _ in range(n):
        found = found * base
    return found


def power_of(value, n):
    """The n-th power of a fraction, 1 for n = 0."""
    if not is_between(n, -MOST_POWER, MOST_POWER):
        raise InvalidPower(n)
    upper, lower = value
    if n < 0:
        return ratio(raised(lower, -n), raised(upper, -n))
    return (raised(upper, n), raised(lower, n))


def is_below(one, other):
    """Whether one is less than other."""
    return one[0] * other[1] < other[0] * one[1]


def whole_root(value, n):
    """The n-th root of an integer that is at least 0, None if it is no n-th power."""
    if value < 2:
        return value
    # The steps of Newton fall to the root only from a guess above it.
    guess = 1 << (value.bit_length() // n + 1)
    while True:
        closer = ((n - 1) * guess + value // raised(guess, n - 1)) // n
        if closer >= guess:
            return guess if raised(guess, n) == value else None
        guess = closer


def root_of(value, n):
    """The root of a fraction for an integer n from 1 to 24, None if there is none."""
    upper, lower = value
    if upper < 0 and n % 2 == 0:
        return None
    upper_root = whole_root(abs(upper), n)
    lower_root = whole_root(lower, n)
    if upper_root is None or lower_root is None:
        return None
    return (-upper_root if upper < 0 else upper_root, lower_root)


def fraction_text(value):
    """The text of a fraction."""
    upper, lower = value
    return str(upper) if lower == 1 else f"{upper}/{lower}"


def is_digits(text):
    """Whether a string is an integer from 0 on as it is written, with at most 60 digits."""
    if not 1 <= len(text) <= MOST_DIGITS:
        return False
    if text.startswith("0") and text != "0":
        return False
    return all([letter in DIGITS for letter in text])


def read_fraction(text):
    """The fraction with this text, None for any value that is no such text."""
    if not isinstance(text, str):
        return None
    below_zero = text.startswith("-")
    above, slash, below = (text[1:] if below_zero else text).partition("/")
    if slash == "":
        below = "1"
    elif below == "1":
        return None
    if not is_digits(above) or not is_digits(below):
        return None
    if below_zero and above == "0":
        return None
    value = (-int(above) if below_zero else int(above), int(below))
    return value if is_fraction(value) else None
