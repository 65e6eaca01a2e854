"""Lists of fractions as series in x that are cut at the order.

A series has its numbers from the place 0 on. The lists of steps, and the lines of their tables, begin at the place 1.
"""

from math import lcm

from creepclocks.ratios import ONE, ZERO, difference_of, negative_of, product_of, quotient_of, ratio


def is_zero(numbers):
    return all([number == ZERO for number in numbers])


def least_place(numbers, first):
    """The least place with a number that is not 0, None if there is none; first is the place of the first number."""
    for at, number in enumerate(numbers):
        if number != ZERO:
            return first + at
    return None


def sums_of(one, other):
    """The sums of two lists, number by number."""
    return [ratio(a * d + b * c, c * d) for (a, c), (b, d) in zip(one, other)]


def differences_of(one, other):
    """The differences of two lists, number by number."""
    return [ratio(a * d - b * c, c * d) for (a, c), (b, d) in zip(one, other)]


def multiples_of(numbers, t):
    """The numbers of a list, each multiplied by t."""
    return [product_of(number, t) for number in numbers]


def dot(ones, others):
    """The sum of the products of two lists, which ends with the shorter one."""
    upper, lower = 0, 1
    for (a, b), (c, d) in zip(ones, others):
        if a != 0 and c != 0:
            # Only the last sum is put into lowest terms: to do so with each one takes far longer.
            shared = lcm(lower, b * d)
            upper = upper * (shared // lower) + a * c * (shared // (b * d))
            lower = shared
    return ratio(upper, lower)


def mixed(factors, lists):
    """The sum of lists of equal length, each multiplied by its factor."""
    return [dot(factors, [numbers[at] for numbers in lists]) for at in range(len(lists[0]))]


def over_one_lower(numbers):
    """The upper parts of fractions that are written with one lower part, and this lower part."""
    lower = 1
    for _, below in numbers:
        lower = lcm(lower, below)
    return [above * (lower // below) for above, below in numbers], lower


def multiplied(one, other):
    """The product of two series of one order."""
    ones, one_lower = over_one_lower(one)
    others, other_lower = over_one_lower(other)
    found = []
    for place in range(len(one)):
        upper = sum([ones[at] * others[place - at] for at in range(place + 1)])
        found.append(ratio(upper, one_lower * other_lower))
    return found


def slope(numbers):
    """The derivative of a series; its number at the order is not known, and 0 stands there."""
    return [product_of((place, 1), numbers[place]) for place in range(1, len(numbers))] + [ZERO]


def moved_parts(numbers, field):
    """The list of u, L(u), L(L(u))/2!, L(L(L(u)))/3! and so on for a series u, up to the last that is not 0.

    L of a series is its slope times the field, which has the numbers of a drift.
    """
    found = [numbers]
    part = multiplied(field, slope(numbers))
    while not is_zero(part):
        found.append(part)
        part = multiples_of(multiplied(field, slope(part)), (1, len(found)))
    return found


def flowed(numbers, field, t):
    """A series behind the flow for t of the drift that the field has."""
    parts = moved_parts(numbers, field)
    factors = [ONE]
    while len(factors) < len(parts):
        factors.append(product_of(factors[-1], t))
    return mixed(factors, parts)


def reciprocal_of(numbers):
    """The series whose product with this one is 1; raises DividedByZero if its first number is 0."""
    found = [quotient_of(ONE, numbers[0])]
    for place in range(1, len(numbers)):
        # What the numbers found so far give at this place has to be taken away by the next one.
        have = dot(found, numbers[place:0:-1])
        found.append(quotient_of(negative_of(have), numbers[0]))
    return found


def log_slopes(numbers):
    """The numbers of the log of a series that begins with 1, from the place 1 on, each times its place."""
    found = []
    for place in range(1, len(numbers)):
        # The slope of the log times the series is the slope of the series.
        have = dot(found, numbers[place - 1:0:-1])
        found.append(difference_of(product_of((place, 1), numbers[place]), have))
    return found


def unit_log(numbers):
    """The log of a series that begins with 1."""
    return [ZERO] + [quotient_of(number, (at + 1, 1)) for at, number in enumerate(log_slopes(numbers))]


def unit_power(numbers, t):
    """The t-th power of a series that begins with 1."""
    slopes = log_slopes(numbers)
    found = [ONE]
    for place in range(1, len(numbers)):
        # The slope of the power is t times the slope of the log times the power.
        found.append(quotient_of(product_of(t, dot(slopes, found[::-1])), (place, 1)))
    return found


def still_numbers(order):
    """The numbers of the still step."""
    return [ONE] + [ZERO] * (order - 1)


def table_lines(numbers):
    """The lines of the table of the step with these numbers."""
    step = [ZERO] + numbers
    powers = [step]
    while len(powers) < len(numbers):
        powers.append(multiplied(powers[-1], step))
    return [power[1:] for power in powers]


def row_behind(numbers, lines):
    """The series behind the step whose table has these lines."""
    return [numbers[0]] + mixed(numbers[1:], lines)


def put_behind(one, other):
    """The numbers of the step one behind the step other."""
    return mixed(one, table_lines(other))


def solved(lines, wanted):
    """The factors with which the lines, each with zeros ahead of its own place, are mixed to the wanted list."""
    found = []
    for at, number in enumerate(wanted):
        # The factors found so far give what stands at this place without the next one.
        have = dot(found, [line[at] for line in lines])
        found.append(quotient_of(difference_of(number, have), lines[at][at]))
    return found


def turned_back(numbers):
    """The numbers of a turnable step turned back."""
    return solved(table_lines(numbers), still_numbers(len(numbers)))


def done_times(numbers, times):
    """The numbers of a step done a number of times that is at least 0."""
    if times == 0:
        return still_numbers(len(numbers))
    if times == 1:
        return numbers
    half = done_times(numbers, times // 2)
    twice = put_behind(half, half)
    return twice if times % 2 == 0 else put_behind(numbers, twice)


def differences(numbers, lines):
    """The list of the numbers, D of them, D of D of them and so on, to the first list of zeros alone.

    D of a list is the list times the matrix with these lines, minus the list.
    """
    found = [numbers]
    while not is_zero(found[-1]):
        found.append(differences_of(mixed(found[-1], lines), found[-1]))
    return found


def binomials(t, many):
    """The list of binomial(t, j) for j from 0 to many - 1."""
    found = [ONE]
    for j in range(1, many):
        found.append(product_of(found[-1], quotient_of(difference_of(t, (j - 1, 1)), (j, 1))))
    return found


def log_factors(many):
    """The list of 1, -1/2, 1/3 and so on."""
    return [(1 if j % 2 == 1 else -1, j) for j in range(1, many + 1)]


def binomial_power(found, t):
    """The sum of binomial(t, j) times the list with the index j."""
    return mixed(binomials(t, len(found)), found)


def binomial_log(found):
    """The list with the index 1, minus half of that with the index 2, plus a third of the next and so on."""
    return mixed(log_factors(len(found) - 1), found[1:])
