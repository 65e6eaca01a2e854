import unittest
from fractions import Fraction

from creepclocks import farrows
from creepclocks.clocks import clock_of
from creepclocks.farrows import Far, Reached, creep_of_far, far_of, increase, led_by, put_over
from creepclocks.papers import Paper
from creepclocks.reading import read_step
from creepclocks.rows import Row
from creepclocks.steps import Step
from tests.helper import ANY_VALUES, caught, fractions_of, numbers_of, pair, pairs, poly, step, tally_put_in, way_back

# Flats from 1 to 11, at orders below, at and above 2k + 1.
CREEPS = ["1 -1 0 0 0", "1 1", "1 -3/2 2", "1 2 0 1 -1 1/3", "1 0 3", "1 0 -1/2 1", "1 0 1 2 0", "1 0 2 0 -1 1 5 1/2",
          "1 0 0 2 1 1", "1 0 0 -1 1 1 1", "1 0 0 1/2 0 3 1 1", "1 0 0 0 0 2 -1 1 4"]
HIGH = [Step(pairs(1, *[0] * (flat - 1), *[Fraction(k % 5 - 2 or 3, k - 1) for k in range(flat + 1, order + 1)]))
        for flat, order in ((1, 12), (2, 12), (3, 11), (4, 12), (5, 10), (5, 11), (5, 12), (6, 12), (11, 12))]
RENAMERS = ["1 1 0 0 1 0 2 0 0 1 1 1", "1 -1/2 3 0 0 1 0 0 2 0 0 5", "1 0 0 0 0 0 0 0 0 0 0 0",
            "1 3 1/3 -1 2 1 1 1 1 1 1 1"]
NOT_SLOW = ["0 0 0", "0 1 2", "-1 1 0", "2 0 0", "1/2 1 1"]


def creeps():
    return [step(text) for text in CREEPS] + HIGH


# A grid is a dict from pairs (i, j) to the factor of z^i l^j.

def clean(grid):
    return {at: number for at, number in grid.items() if number != 0}


def grid_sum(one, other, factor=1):
    found = dict(one)
    for at, number in other.items():
        found[at] = found.get(at, 0) + factor * number
    return clean(found)


def grid_times(one, other, last):
    found = {}
    for (i, j), a in one.items():
        for (m, n), b in other.items():
            if i + m <= last:
                found[i + m, j + n] = found.get((i + m, j + n), 0) + a * b
    return clean(found)


def grid_of(polynomials):
    return clean({(i + 1, j): number for i, numbers in enumerate(polynomials)
                  for j, number in enumerate(fractions_of(numbers))})


def polynomials_of(grid, last):
    """The polynomials at the places 1 to last."""
    found = []
    for i in range(1, last + 1):
        most = max([n for m, n in grid if m == i], default=-1)
        found.append(pairs(*[grid.get((i, j), 0) for j in range(most + 1)]))
    return found


def grid_power(rest, t, last):
    """(1 + rest)^t, cut at z^last."""
    found, part, factor = {(0, 0): Fraction(1)}, {(0, 0): Fraction(1)}, Fraction(1)
    for n in range(1, last + 1):
        part = grid_times(part, rest, last)
        factor = factor * (t - n + 1) / n
        found = grid_sum(found, part, factor)
    return found


def grid_log(rest, last):
    """log(1 + rest), cut at z^last."""
    found, part = {}, {(0, 0): Fraction(1)}
    for n in range(1, last + 1):
        part = grid_times(part, rest, last)
        found = grid_sum(found, part, Fraction((-1) ** (n + 1), n))
    return found


def put_in_grid(numbers, y, last):
    """The sum of number * y^place for the places from 1 on."""
    found, part = {}, {(0, 0): Fraction(1)}
    for number in numbers:
        part = grid_times(part, y, last)
        found = grid_sum(found, part, number)
    return found


def moved_grid(far, b, last):
    """A far row with n + b in the place of n, cut at z^last."""
    k, b = far.flat, Fraction(*b)
    rest = clean({(k, 0): -Fraction(*far.strength) * k * b})
    further = {at: number * Fraction(-1, k) for at, number in grid_log(rest, last).items()}
    letter = grid_sum({(0, 1): Fraction(1)}, further)
    found = {}
    for i, numbers in enumerate(far.polynomials()):
        for j, number in enumerate(fractions_of(numbers)):
            part = grid_power(rest, Fraction(-(i + 1), k), last)
            for _ in range(j):
                part = grid_times(part, letter, last)
            found = grid_sum(found, grid_times(part, {(i + 1, 0): number}, last))
    return found


def clock_less_n(far, clock):
    """z^k times what is left of the clock at the far row when n is taken away, up to the last place that is seen."""
    k, last = far.flat, len(far) - 1
    rest = {(i - 1, j): number for (i, j), number in grid_of(far.polynomials()).items() if i > 1}
    found = {(0, 0): 1 / (Fraction(*far.strength) * k)}
    for at, number in enumerate(fractions_of(clock.numbers())):
        if at == k:
            part = grid_sum({(0, 1): Fraction(1)}, grid_log(rest, last))
        else:
            part = grid_power(rest, Fraction(at - k), last)
        found = grid_sum(found, grid_times(part, {(at, 0): number}, last))
    return found


def changed_rows(far):
    """The far rows that differ from one with the flat 1 in a single number."""
    found = []
    for at in range(1, len(far)):
        for j in range(at + 1):
            grid = grid_sum(grid_of(far.polynomials()), {(at + 1, j): 1})
            found.append(Far(far.flat, far.strength, polynomials_of(grid, len(far))))
    return found


class FarOfTest(unittest.TestCase):
    def test_document(self):
        self.assertEqual(far_of(read_step("x - x^2 to 5")).polynomials(),
                         [[(1, 1)], [(0, 1), (1, 1)], numbers_of("1/2 1 1"), numbers_of("5/6 5/2 5/2 1")])

    def test_put_into_the_clock_it_leaves_n(self):
        for f in creeps():
            y = far_of(f)
            self.assertEqual((y.flat, y.strength, y.order, len(y)), (f.flat, f.strength, f.order, f.order - f.flat))
            self.assertEqual(clock_less_n(y, clock_of(f)), {}, f)

    def test_no_other_row_does(self):
        f = step("1 2 0 1 -1 1/3")
        for other in changed_rows(far_of(f)):
            self.assertNotEqual(clock_less_n(other, clock_of(f)), {})

    def test_known(self):
        # x/(1 + x) leads from 1/n to 1/(n + 1).
        f = Step(pairs(*[(-1) ** (place + 1) for place in range(1, 13)]))
        self.assertEqual(far_of(creep=f), Far(1, (-1, 1), [[(1, 1)]] + [[]] * 10))
        self.assertEqual(far_of(step("1 5")).polynomials(), [[(1, 1)]])
        self.assertEqual(far_of(step("1 0 0 2")).polynomials(), [[(1, 1)]])

    def test_errors_in_order(self):
        for text in NOT_SLOW:
            self.assertEqual(caught(far_of, step(text)), ("NotSlow", {"first": numbers_of(text)[0]}))
        self.assertEqual(caught(far_of, Step.scaling((2, 1), 13)), ("NotSlow", {"first": (2, 1)}))
        self.assertEqual(caught(far_of, step("1 0 0")), ("IsStill", {"have": 3}))
        self.assertEqual(caught(far_of, Step.still(13)), ("IsStill", {"have": 13}))
        for order in (13, 24):
            f = Step(pairs(1, 1, *[0] * (order - 2)))
            self.assertEqual(caught(far_of, f), ("InvalidOrder", {"value": order}))
        self.assertEqual(caught(far_of, Step(pairs(*[1] + [0] * 12 + [1]))), ("InvalidOrder", {"value": 14}))


class GrowthTest(unittest.TestCase):
    def test_against_the_grid(self):
        for f in creeps():
            y = far_of(f)
            grown = grid_sum(moved_grid(y, (1, 1), y.order), grid_of(y.polynomials()), -1)
            self.assertEqual(y.growth(), polynomials_of(grown, y.order))

    def test_of_any_far_row(self):
        for y in (Far(1, (2, 3), [[(1, 1)], numbers_of("5 -1"), [], numbers_of("0 0 0 7/2")]),
                  Far(2, (-1, 2), [[(1, 1)], numbers_of("3"), numbers_of("0 1"), numbers_of("1/7 2"), []])):
            grown = grid_sum(moved_grid(y, (1, 1), y.order), grid_of(y.polynomials()), -1)
            self.assertEqual(y.growth(), polynomials_of(grown, y.order))
            for at in range(y.flat):
                self.assertEqual(y.growth()[at], [])
            self.assertEqual(y.growth()[y.flat], [y.strength])

    def test_is_the_increase_of_the_creep(self):
        for f in creeps():
            y = far_of(f)
            self.assertEqual(increase(f, y), y.growth())
            for b in ((3, 1), (-1, 2)):
                self.assertEqual(increase(f, y.moved_on(b)), y.moved_on(b).growth())

    def test_above_the_order_it_is_changed_only(self):
        # One more polynomial changes the growth above the order only.
        y = far_of(step("1 2 0 1 -1 1/3"))
        longer = Far(1, y.strength, y.polynomials() + [numbers_of("4 -3 1")])
        self.assertEqual(longer.growth()[:y.order], y.growth())

    def test_returned_lists_are_new(self):
        y = far_of(step("1 2 0 1"))
        y.growth()[1].append(5)
        y.growth().clear()
        y.polynomials()[0].clear()
        y.polynomials().clear()
        self.assertEqual(y, far_of(step("1 2 0 1")))
        self.assertEqual(increase(step("1 2 0 1"), y), y.growth())


class IncreaseTest(unittest.TestCase):
    def test_any_step(self):
        y = Far(1, (2, 1), [[(1, 1)], numbers_of("1/2 3"), numbers_of("0 1 -2"), [], numbers_of("0 0 0 0 1")])
        for text in ("0 0 0 0 0 0", "0 0 2 1 0 1", "1 0 0 0 0 0", "-1 1 1 0 0 0", "2 1 0 0 -1 1", "1 1/3 0 5 0 1"):
            f, grid = step(text), grid_of(y.polynomials())
            wanted = grid_sum(put_in_grid(fractions_of(f.numbers()), grid, 6), grid, -1)
            self.assertEqual(increase(f, y), polynomials_of(wanted, 6))
        y = far_of(step("1 0 2 0 -1 1 5 1/2"))
        f, grid = step("3 1 1 0 2 0 -1 1"), grid_of(y.polynomials())
        wanted = grid_sum(put_in_grid(fractions_of(f.numbers()), grid, 8), grid, -1)
        self.assertEqual(increase(far=y, step=f), polynomials_of(wanted, 8))

    def test_errors(self):
        y = far_of(step("1 2 0 1"))
        for text in ("2 1 1", "1 1 1 1 1"):
            order = {"one": len(text.split()), "other": 4}
            self.assertEqual(caught(increase, step(text), y), ("UnlikeOrders", order))


class CreepOfFarTest(unittest.TestCase):
    def test_gives_the_creep_back(self):
        for f in creeps():
            y = far_of(f)
            self.assertEqual(creep_of_far(y), f)
            for b in ((1, 1), (-5, 3)):
                self.assertEqual(creep_of_far(far=y.moved_on(b)), f)

    def test_not_far(self):
        for other in changed_rows(far_of(step("1 2 0 1 -1 1/3"))):
            self.check(other)

    def test_first_place(self):
        y = Far(1, (1, 1), [[(1, 1)], numbers_of("0 5")])
        self.assertEqual(caught(creep_of_far, y), None)
        y = Far(1, (1, 1), [[(1, 1)], numbers_of("0 5"), []])
        self.assertEqual(caught(creep_of_far, y), ("NotFar", {"place": 4}))
        y = Far(2, (1, 1), [[(1, 1)], [], numbers_of("0 5"), [], [], [], numbers_of("0 0 1")])
        self.check(y)

    def check(self, far):
        """Compares with the numbers that fit one after the other in a grid."""
        grid = grid_of(far.polynomials())
        left = grid_sum(moved_grid(far, (1, 1), far.order), grid, -1)
        numbers, part, wrong = [Fraction(1)], grid, None
        for d in range(2, far.order + 1):
            part = grid_times(part, grid, far.order)
            numbers.append(left.get((d, 0), Fraction(0)))
            left = grid_sum(left, part, -numbers[-1])
            if any(i == d for i, _ in left):
                wrong = ("NotFar", {"place": d})
                break
        if wrong is None:
            self.assertEqual(creep_of_far(far), Step(pairs(*numbers)))
        else:
            self.assertEqual(caught(creep_of_far, far), wrong)


class MovedOnTest(unittest.TestCase):
    def test_against_the_grid(self):
        for f in creeps():
            y = far_of(f)
            for b in ((2, 1), (-1, 3)):
                self.assertEqual(y.moved_on(b).polynomials(), polynomials_of(moved_grid(y, b, len(y)), len(y)))

    def test_back_and_forth(self):
        for f in creeps():
            y = far_of(f)
            self.assertEqual(y.moved_on((0, 1)), y)
            self.assertEqual(y.moved_on((7, 2)).moved_on((-7, 2)), y)
            self.assertEqual(y.moved_on((1, 2)).moved_on(b=(1, 3)), y.moved_on((5, 6)))
            self.assertEqual(y.moved_on((1, 1)) == y, f.order < 2 * f.flat + 1)

    def test_errors(self):
        y = far_of(step("1 1 1"))
        for value in ANY_VALUES:
            if value != (1, 1):
                code, told = caught(y.moved_on, value)
                self.assertEqual(code, "InvalidNumber")
                self.assertIs(told["value"], value)


class PutOverTest(unittest.TestCase):
    def test_renamed(self):
        for f in creeps():
            for text in RENAMERS:
                h = step(text).cut(f.order)
                b = led_by(f, h)
                there = put_over(h, far_of(f))
                other = far_of(f.renamed(h))
                self.assertEqual(there, other if b is None else other.moved_on(b))
                self.assertEqual(b is None, f.order < 2 * f.flat + 1)

    def test_against_the_grid(self):
        for f in creeps():
            y, h = far_of(f), step(RENAMERS[0]).cut(f.order)
            wanted = put_in_grid(fractions_of(h.numbers()), grid_of(y.polynomials()), len(y))
            there = put_over(far=y, step=h)
            self.assertEqual((there.flat, there.strength), (y.flat, y.strength))
            self.assertEqual(there.polynomials(), polynomials_of(wanted, len(y)))

    def test_errors_in_order(self):
        y = far_of(step("1 2 0 1"))
        for text in NOT_SLOW + ["1 1 1"]:
            self.assertEqual(caught(put_over, step(text), y), ("UnlikeOrders", {"one": 3, "other": 4}))
        for text in NOT_SLOW:
            self.assertEqual(caught(put_over, step(text + " 1"), y), ("NotLed", {"first": numbers_of(text)[0]}))


class LedByTest(unittest.TestCase):
    def test_constant_part(self):
        for f in creeps() + [Step(pairs(1, 0, 3, *[1] * 21))]:
            h = Step((numbers_of(RENAMERS[3]) + [(2, 1)] * 12)[:f.order])
            constant = tally_put_in(clock_of(f), way_back(poly(h))).get(0)
            if f.order < 2 * f.flat + 1:
                self.assertIsNone(led_by(f, h))
            else:
                self.assertEqual(led_by(step=h, creep=f), pair(-constant))

    def test_of_powers(self):
        # A power of the creep itself leads on by its time.
        f = step("1 2 0 1 -1 1/3")
        for t in ((0, 1), (1, 1), (-2, 1), (3, 4)):
            self.assertEqual(led_by(f, f.power(t)), t)

    def test_errors_in_order(self):
        h = step("2 1 1")
        for text in ("0 1 1 1", "1 0 0 0", "1 1 1 1"):
            self.assertEqual(caught(led_by, step(text), h), ("UnlikeOrders", {"one": 4, "other": 3}))
        for text in NOT_SLOW:
            self.assertEqual(caught(led_by, step(text), h), ("NotSlow", {"first": numbers_of(text)[0]}))
        self.assertEqual(caught(led_by, step("1 0 0"), h), ("IsStill", {"have": 3}))
        for text in NOT_SLOW:
            wanted = ("NotLed", {"first": numbers_of(text)[0]})
            self.assertEqual(caught(led_by, step("1 1 1"), step(text)), wanted)
            # Also where nothing would be seen.
            self.assertEqual(caught(led_by, step("1 0 1"), step(text)), wanted)


class FarTest(unittest.TestCase):
    def test_values(self):
        y = Far(2, (-3, 2), ([(1, 1)], ((5, 1),), [(0, 1), (1, 2)], []))
        self.assertEqual((y.flat, y.strength, y.order, len(y)), (2, (-3, 2), 6, 4))
        self.assertEqual(y.polynomials(), [[(1, 1)], [(5, 1)], [(0, 1), (1, 2)], []])
        self.assertEqual(repr(y), "Far(2, 4 places)")
        self.assertEqual(repr(Far(11, (1, 1), [[(1, 1)]])), "Far(11, 1 places)")
        self.assertEqual(repr(Far(1, (1, 1), [[(1, 1)]])), "Far(1, 1 places)")
        self.assertEqual(Far(polynomials=[[(1, 1)]], strength=(1, 1), flat=1).order, 2)

    def test_lists_are_copied(self):
        numbers = [(0, 1), (1, 1)]
        polynomials = [[(1, 1)], numbers]
        y = Far(1, (1, 1), polynomials)
        numbers.append((4, 1))
        polynomials.append([])
        self.assertEqual(y.polynomials(), [[(1, 1)], [(0, 1), (1, 1)]])

    def test_equal(self):
        y = Far(1, (1, 1), [[(1, 1)], [(2, 1)]])
        self.assertEqual(y, Far(1, (1, 1), (((1, 1),), ((2, 1),))))
        for other in (Far(2, (1, 1), [[(1, 1)], [(2, 1)]]), Far(1, (2, 1), [[(1, 1)], [(2, 1)]]),
                      Far(1, (1, 1), [[(1, 1)], [(3, 1)]]), Far(1, (1, 1), [[(1, 1)]]),
                      Far(1, (1, 1), [[(1, 1)], [(2, 1), (1, 1)]]), [[(1, 1)], [(2, 1)]], None, step("1 1")):
            self.assertFalse(y == other)
            self.assertTrue(y != other)

    def test_wrong_flats_and_strengths(self):
        for value in ANY_VALUES + [12, -3]:
            if value == 1 and value is not True:
                continue
            code, told = caught(Far, value, None, None)
            self.assertEqual(code, "InvalidFlat")
            self.assertIs(told["value"], value)
        for value in ANY_VALUES + [(0, 1)]:
            if value == (1, 1):
                continue
            code, told = caught(Far, 11, value, None)
            self.assertEqual(code, "InvalidNumber")
            self.assertIs(told["value"], value)

    def test_wrong_polynomials(self):
        one = [(1, 1)]
        for value in [None, 3, "", Row(numbers_of("1 0 0")), [], (), [one, [], []], [None] * 3]:
            self.assertEqual(caught(Far, 10, (1, 1), value), ("InvalidFar", {"at": -1}))
        for flat in range(1, 12):
            self.assertIsNone(caught(Far, flat, (1, 1), [one] + [[]] * (11 - flat)))
            self.assertEqual(caught(Far, flat, (1, 1), [one] + [[]] * (12 - flat)), ("InvalidFar", {"at": -1}))
            most = [one] + [[(1, 1)] * (at // flat + 1) for at in range(1, 12 - flat)]
            self.assertIsNone(caught(Far, flat, (1, 1), most))
            for at in range(12 - flat):
                wrong = list(most)
                wrong[at] = wrong[at] + [(1, 1)]
                self.assertEqual(caught(Far, flat, (1, 1), wrong), ("InvalidFar", {"at": at}))

    def test_wrong_items(self):
        one = [(1, 1)]
        for value in ANY_VALUES:
            if value in ([], (), [(1, 1)]):
                continue
            if value != ((1, 1), (1, 2)):
                self.assertEqual(caught(Far, 1, (1, 1), [one, value, None]), ("InvalidFar", {"at": 1}))
            self.assertEqual(caught(Far, 1, (1, 1), [value, None]), ("InvalidFar", {"at": 0}))
        for value in ([], (), [(2, 1)], [(0, 1)], [(1, 1), (1, 1)], [(1, 1), (0, 1)]):
            self.assertEqual(caught(Far, 1, (1, 1), [value, None]), ("InvalidFar", {"at": 0}))
        for value in ([(0, 1)], [(1, 1), (0, 1)], [(0, 1), (0, 1)], [(1, 1), (2, 2)]):
            self.assertEqual(caught(Far, 1, (1, 1), [one, value]), ("InvalidFar", {"at": 1}))


class ReachedTest(unittest.TestCase):
    def test_right(self):
        for f in creeps():
            for y in (far_of(f), far_of(f).moved_on((5, 2))):
                self.assertIsNone(Reached(f, y).wrong())
        self.assertIsNone(Reached(far=far_of(step("1 1 1")), creep=step("1 1 1")).wrong())

    def test_title_and_attributes(self):
        f = step("1 1 1")
        y = far_of(f)
        paper = Reached(f, y)
        self.assertEqual((paper.title, paper.creep, paper.far), ("reached", f, y))
        self.assertIsInstance(paper, Paper)

    def test_checks_0_to_2(self):
        y = far_of(step("1 1 1"))
        self.assertEqual(Reached(step("2 1 1 1"), y).wrong(), (0, 0))
        self.assertEqual(Reached(step("1 1"), y).wrong(), (0, 0))
        for text in NOT_SLOW + ["1 0 0"]:
            self.assertEqual(Reached(step(text), y).wrong(), (1, 1))
        for text in ("1 0 1", "1 2 1"):
            self.assertEqual(Reached(step(text), y).wrong(), (2, 0))

    def test_check_3(self):
        for f in creeps():
            y = far_of(f)
            for place in range(f.flat + 2, f.order + 1):
                numbers = f.numbers()
                for later in range(place, f.order + 1):
                    numbers[later - 1] = pair(Fraction(*numbers[later - 1]) + later)
                self.assertEqual(Reached(Step(numbers), y).wrong(), (3, place))

    def test_check_3_in_the_parts_with_l(self):
        y = Far(1, (1, 1), [[(1, 1)], numbers_of("0 5"), []])
        f = Step(numbers_of("1 1") + [y.growth()[2][0], (0, 1)])
        self.assertEqual(Reached(f, y).wrong()[0], 3)


class DefinedHereTest(unittest.TestCase):
    def test_names(self):
        for name in ("Far", "Reached", "increase", "far_of", "creep_of_far", "put_over", "led_by"):
            self.assertEqual(getattr(farrows, name).__module__, "creepclocks.farrows")
        self.assertEqual(Reached.__bases__, (Paper,))
        self.assertIn("wrong", vars(Reached))
        for name in ("polynomials", "moved_on", "growth", "__eq__", "__len__", "__repr__"):
            self.assertIn(name, vars(Far))


if __name__ == "__main__":
    unittest.main()
