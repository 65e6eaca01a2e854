"""Far rows: where creeps lead after a large number of steps."""

from creepclocks.checks import check_creep, check_number, check_orders, is_listing, wrong_item
from creepclocks.clocks import clock_of
from creepclocks.drifts import polynomial
from creepclocks.errors import InvalidFar, InvalidFlat, InvalidNumber, InvalidOrder, NotFar, NotLed
from creepclocks.papers import Paper
from creepclocks.ratios import ONE, ZERO, is_between, negative_of, product_of, sum_of
from creepclocks.series import (
    differences_of, dot, is_zero, mixed, multiples_of, multiplied, sums_of, table_lines, turned_back, unit_log,
    unit_power,
)
from creepclocks.steps import Step
from creepclocks.tallies import letters_behind

HIGHEST_FAR = 12

# The polynomials of a far row y = z q are spread over one series, in which l takes one place and z takes `wide` places.
# What stands at z^i in q, in its powers and in its log has at most the degree i // k. So nothing runs over into the
# next place of z, and the sums, products, powers and logs of these series are those of what they stand for.


def wide_for(many, flat):
    """How many numbers the polynomials at so many places need at the most."""
    return (many - 1) // flat + 1


def spread(polynomials, many, wide):
    """The series of polynomials, of which there are at most many, with zeros behind them."""
    found = []
    for numbers in polynomials:
        found.extend(numbers + [ZERO] * (wide - len(numbers)))
    return found + [ZERO] * (many * wide - len(found))


def gathered(numbers, wide):
    """The polynomials of a series."""
    return [polynomial(numbers[at:at + wide]) for at in range(0, len(numbers), wide)]


def moved_up(numbers, places):
    """A series times a power of its letter."""
    return ([ZERO] * places + numbers)[:len(numbers)]


def is_polynomial(value, most):
    """Whether any value is a polynomial with at most so many numbers."""
    if not is_listing(value) or len(value) > most or wrong_item(value) is not None:
        return False
    return len(value) == 0 or value[-1] != ZERO


def checked_far(flat, strength, polynomials):
    """A new list of the polynomials of a far row, each a new list."""
    if not is_between(flat, 1, HIGHEST_FAR - 1):
        raise InvalidFlat(flat)
    check_number(strength)
    if strength == ZERO:
        raise InvalidNumber(strength)
    if not is_listing(polynomials) or not 1 <= len(polynomials) <= HIGHEST_FAR - flat:
        raise InvalidFar(-1)
    for at, numbers in enumerate(polynomials):
        if not is_polynomial(numbers, at // flat + 1) or (at == 0 and list(numbers) != [ONE]):
            raise InvalidFar(at)
    return [list(numbers) for numbers in polynomials]


class Far:
    """A far row, given by its flat, its strength and the list of its polynomials from the place 1 on."""

    def __init__(self, flat, strength, polynomials):
        self._polynomials = checked_far(flat, strength, polynomials)
        self.flat = flat
        self.strength = strength
        self.order = flat + len(polynomials)

    def polynomials(self):
        """The list of the polynomials."""
        return [list(numbers) for numbers in self._polynomials]

    def moved_on(self, b):
        """The far row moved on by a fraction."""
        check_number(b)
        return Far(self.flat, self.strength, moved_far(self, b, len(self._polynomials)))

    def growth(self):
        """The list of the polynomials of the growth, at the places 1 to the order."""
        many = self.order
        wide = wide_for(many, self.flat)
        there = spread(moved_far(self, ONE, many), many, wide)
        return gathered(differences_of(there, spread(self._polynomials, many, wide)), wide)

    def __eq__(self, other):
        if not isinstance(other, Far) or self.flat != other.flat or self.strength != other.strength:
            return False
        return self._polynomials == other._polynomials

    def __len__(self):
        return len(self._polynomials)

    def __repr__(self):
        return f"Far({self.flat}, {len(self._polynomials)} places)"


def moved_far(far, b, many):
    """The polynomials of a far row moved on by b, at the places 1 to many; the row is taken as 0 above its own ones."""
    flat = far.flat
    e = [ONE] + [ZERO] * (many - 1)
    if flat < many:
        e[flat] = negative_of(product_of(far.strength, product_of((flat, 1), b)))
    # The letter z becomes z times a power of e, and l becomes l plus a part of the log of e.
    lines = table_lines(unit_power(e, (-1, flat)))
    further = multiples_of(unit_log(e), (-1, flat))
    wide = wide_for(many, flat)
    numbers = spread(far.polynomials(), many, wide)
    columns = [mixed(numbers[j::wide], lines) for j in range(wide)]
    for first in range(wide - 1):
        for j in range(wide - 2, first - 1, -1):
            columns[j] = sums_of(columns[j], multiplied(columns[j + 1], further))
    return [polynomial([column[at] for column in columns]) for at in range(many)]


def far_powers(far, many):
    """The powers 1 to many of a far row, each spread from the place 1 on over so many places."""
    wide = wide_for(many, far.flat)
    unit = spread(far.polynomials(), many, wide)
    found = [unit]
    while len(found) < many:
        found.append(moved_up(multiplied(found[-1], unit), wide))
    return found


class Reached(Paper):
    """The claim that far is a far row of creep, maybe moved on."""

    def __init__(self, creep, far):
        Paper.__init__(self, "reached")
        self.creep = creep
        self.far = far

    def wrong(self):
        """None if the paper is right, otherwise the pair (check, place) of its first check that fails."""
        creep, far = self.creep, self.far
        if creep.order != far.order:
            return (0, 0)
        if creep.kind != "creep":
            return (1, 1)
        if creep.flat != far.flat or creep.strength != far.strength:
            return (2, 0)
        for at, (mine, yours) in enumerate(zip(increase(creep, far), far.growth())):
            if mine != yours:
                return (3, at + 1)
        return None


def increase(step, far):
    """The list of the polynomials of what any step adds to a far row, at the places 1 to the order."""
    check_orders(step, far)
    powers = far_powers(far, far.order)
    there = mixed(step.numbers(), powers)
    return gathered(differences_of(there, powers[0]), wide_for(far.order, far.flat))


def clock_beyond(clock, polynomials):
    """The polynomial at the next place of a far row that begins so, when the clock is put at it.

    The clock is multiplied by the power of z that takes its poles away.
    """
    flat, many = clock.flat, len(polynomials) + 1
    wide = wide_for(many, flat)
    unit = spread(polynomials, many, wide)
    power = unit_power(unit, (-flat, 1))
    parts = []
    for at in range(many):
        part = power
        if at == flat:
            # The log of z q is l plus the log of q.
            part = unit_log(unit)
            part[1] = sum_of(part[1], ONE)
        parts.append(moved_up(part, at * wide)[-wide:])
        power = multiplied(power, unit)
    return polynomial(mixed(clock.numbers()[:many], parts))


def far_of(creep):
    """The far row of a creep."""
    check_creep(creep)
    if creep.order > HIGHEST_FAR:
        raise InvalidOrder(creep.order)
    clock = clock_of(creep)
    found = [[ONE]]
    while len(found) < len(clock):
        # A further polynomial here adds itself, divided by the strength, to what has to be 0.
        found.append(multiples_of(clock_beyond(clock, found), negative_of(creep.strength)))
    return Far(creep.flat, creep.strength, found)


def creep_of_far(far):
    """The creep that a far row tells."""
    wide = wide_for(far.order, far.flat)
    powers = far_powers(far, far.order)
    left = spread(far.growth(), far.order, wide)
    found = [ONE]
    for at in range(1, far.order):
        number = left[at * wide]
        left = differences_of(left, multiples_of(powers[at], number))
        if not is_zero(left[at * wide:(at + 1) * wide]):
            raise NotFar(at + 1)
        found.append(number)
    return Step(found)


def check_led(step):
    """Refuses a renamer with another lead than 1."""
    if step.lead != ONE:
        raise NotLed(step.lead)


def put_over(step, far):
    """A far row put into a renamer with the lead 1."""
    check_orders(step, far)
    check_led(step)
    many = len(far)
    there = mixed(step.numbers()[:many], far_powers(far, many))
    return Far(far.flat, far.strength, gathered(there, wide_for(many, far.flat)))


def led_by(creep, step):
    """The fraction by which a renamer moves the far row of a creep on, None if this changes nothing that is seen."""
    check_orders(creep, step)
    check_creep(creep)
    check_led(step)
    flat = creep.flat
    if creep.order <= 2 * flat:
        return None
    letters = letters_behind(flat, turned_back(step.numbers()))
    return negative_of(dot(clock_of(creep).numbers(), [part[flat] for part in letters]))
