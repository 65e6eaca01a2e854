import unittest
from fractions import Fraction

from creepclocks import clocks
from creepclocks.clocks import Summed, along, clock_of, creep_of, gain, places_sum, share
from creepclocks.drifts import drift_of
from creepclocks.papers import Paper
from creepclocks.rows import Row
from creepclocks.steps import Step
from creepclocks.tallies import Tally
from tests.helper import (
    ANY_VALUES, as_row, caught, done_times, fractions_of, numbers_of, one_over, pair, pairs, plus, poly, put_in, row,
    step, tally_put_in,
)

CREEPS = ["1 1 0 0 0 0", "1 -3/2 1 0 2 1", "1 0 1 0 0 0", "1 0 -1/2 3 1 1", "1 0 0 2 -1 5", "1 0 0 0 5/7 1",
          "1 0 0 0 0 -3"]
EDGES = ["1 1", "1 -2/3", "1 0 5", "1 2 3", "1 0 3 1", "1 0 3 1 1", "1 0 0 4"]
HIGH = [Step(pairs(1, *[0] * (flat - 1), *[Fraction(k % 5 - 2, k - 1) for k in range(flat + 1, 25)]))
        for flat in (1, 2, 5, 11, 12, 23)]
ROWS = ["1 0 0 0 0 0 0", "0 1 0 0 0 0 0", "2 -1 1/2 0 3 7 1", "0 0 0 1 0 0 1", "0 0 0 0 0 0 0"]
NOT_SLOW = ["0 0 0", "0 1 2", "-1 1 0", "2 0 0", "1/2 1 1"]


def creeps():
    return [step(text) for text in CREEPS + EDGES] + HIGH


def tally(flat, text):
    return Tally(flat, numbers_of(text))


def some_row(order):
    return Row(pairs(*[Fraction(3 - k, k + 2) for k in range(order + 1)]))


def gain_of(u, numbers):
    """The numbers at the places 0 to N - k - 1 of a tally put into a poly, less the tally."""
    there = tally_put_in(u, numbers)
    for at, number in enumerate(fractions_of(u.numbers())):
        if at != u.flat:
            there[at - u.flat] -= number
    return there


class GainTest(unittest.TestCase):
    def test_against_putting_in(self):
        for f in creeps():
            many = f.order - f.flat
            for numbers in (range(1, many + 1), [Fraction(-1, k + 1) for k in range(many)], [0] * many):
                u = Tally(f.flat, pairs(*numbers))
                there = gain_of(u, poly(f))
                self.assertTrue(all(there[place] == 0 for place in range(-f.flat, 0)))
                self.assertEqual(gain(u, f), pairs(*[there[place] for place in range(many)]))

    def test_the_constant_counts(self):
        # 1/x behind x + x^2 is 1/x - 1 + x - x^2 + ..
        self.assertEqual(gain(tally(1, "1 0 0 0 0"), step("1 1 0 0 0 0")), numbers_of("-1 1 -1 1 -1"))

    def test_further_numbers_change_it_first_where_the_document_says(self):
        for f in creeps():
            u = along(some_row(f.order), f)
            before = fractions_of(gain(u, f))
            for e in range(-f.flat, u.last + 1):
                numbers = fractions_of(u.numbers())
                numbers[e + f.flat] += 3
                changed = [a - b for a, b in zip(fractions_of(gain(Tally(f.flat, pairs(*numbers)), f)), before)]
                wanted = 3 * (e if e != 0 else 1) * Fraction(*f.strength)
                self.assertEqual(changed[:e + f.flat + 1], [0] * (e + f.flat) + [wanted])

    def test_of_a_clock(self):
        for f in creeps():
            self.assertEqual(gain(clock_of(f), f), [(1, 1)] + [(0, 1)] * (f.order - f.flat - 1))

    def test_returned_lists_are_new(self):
        u, f = tally(1, "1 2"), step("1 1 0")
        gain(u, f).clear()
        gain(u, f)[0] = (9, 1)
        self.assertEqual(gain(tally=u, creep=f), gain(u, f))
        self.assertEqual((u, f), (tally(1, "1 2"), step("1 1 0")))

    def test_errors_in_order(self):
        u = tally(1, "1 2")
        for text in NOT_SLOW + ["1 0 0"]:
            order = ("UnlikeOrders", {"one": 2, "other": 3})
            self.assertEqual(caught(gain, tally(1, "1"), step(text)), order)
        for text in NOT_SLOW:
            self.assertEqual(caught(gain, u, step(text)), ("NotSlow", {"first": numbers_of(text)[0]}))
        self.assertEqual(caught(gain, tally(2, "1"), step("1 0 0")), ("IsStill", {"have": 3}))
        self.assertEqual(caught(gain, u, step("1 0 1")), ("UnlikeFlats", {"one": 1, "other": 2}))
        self.assertEqual(caught(gain, tally(2, "1"), step("1 1 1")), ("UnlikeFlats", {"one": 2, "other": 1}))


class AlongTest(unittest.TestCase):
    def test_turns_gain_back(self):
        for f in creeps():
            many = f.order - f.flat
            for w in (some_row(f.order), Row.constant((0, 1), f.order), Row(pairs(*[0] * f.order, 1))):
                u = along(w, f)
                self.assertEqual((u.flat, u.order), (f.flat, f.order))
                there = gain_of(u, poly(f))
                self.assertEqual(pairs(*[there[place] for place in range(many)]), w.numbers()[:many])
                self.assertEqual(gain(u, f), w.numbers()[:many])
            u = Tally(f.flat, pairs(*range(2, many + 2)))
            w = Row(gain(u, f) + [(7, 1)] * (f.flat + 1))
            self.assertEqual(along(w, f), u)

    def test_numbers_above_mean_nothing(self):
        for f in creeps():
            w = some_row(f.order)
            for place in range(f.order + 1):
                numbers = w.numbers()
                numbers[place] = (100, 1)
                same = along(Row(numbers), f) == along(w, f)
                self.assertEqual(same, place > f.order - f.flat - 1)

    def test_example(self):
        f, w = step("1 1 1 1 1 1"), row("0 1 0 0 0 0 0")
        self.assertEqual(str(along(w, f)), "log(x) - 1/2*x + 1/12*x^2 from -1 to 3")
        self.assertEqual((share(w, f), gain(along(w, f), f)), ((1, 1), numbers_of("0 1 0 0 0")))

    def test_share(self):
        for f in creeps():
            w = some_row(f.order)
            wanted = None if f.order < 2 * f.flat + 1 else along(w, f).numbers()[f.flat]
            self.assertEqual(share(w, f), wanted)
            self.assertEqual(share(row=w, creep=f), along(row=w, creep=f).log)
        self.assertIsNone(share(row("1 1 1 1 1"), step("1 0 1 1")))
        self.assertEqual(share(row("0 0 1 0 0 0"), step("1 0 1 0 0")), (1, 1))

    def test_errors_in_order(self):
        for act in (along, share):
            for text in NOT_SLOW + ["1 0 0", "1 1 1"]:
                self.assertEqual(caught(act, row("1 1 1"), step(text)), ("UnlikeOrders", {"one": 2, "other": 3}))
            for text in NOT_SLOW:
                self.assertEqual(caught(act, row("1 1 1 1"), step(text)), ("NotSlow", {"first": numbers_of(text)[0]}))
            self.assertEqual(caught(act, row("1 1 1 1"), step("1 0 0")), ("IsStill", {"have": 3}))

    def test_unchanged(self):
        w, f = row("1 2 3 4"), step("1 2 3")
        along(w, f).numbers().clear()
        self.assertEqual((w, f), (row("1 2 3 4"), step("1 2 3")))


class ClockTest(unittest.TestCase):
    def test_moved_on_by_1(self):
        for f in creeps():
            there = gain_of(clock_of(f), poly(f))
            self.assertEqual([there[place] for place in sorted(there)],
                             [int(place == 0) for place in range(-f.flat, f.order - f.flat)])

    def test_slope_is_one_over_the_drift(self):
        for f in creeps():
            v = fractions_of(drift_of(f).numbers())[f.flat - 1:]
            wanted = one_over(v + [Fraction(0)])[:len(v)]
            for e in range(-f.flat, f.order - 2 * f.flat):
                number = Fraction(*clock_of(f).number(e))
                self.assertEqual(wanted[e + f.flat], e * number if e != 0 else number)

    def test_known(self):
        self.assertEqual(str(clock_of(step("1 1 0 0 0 0"))),
                         "-x^-1 + log(x) - 1/2*x + 1/3*x^2 - 13/36*x^3 from -1 to 3")
        # x/(1 - x) has the clock -1/x.
        self.assertEqual(str(clock_of(creep=step("1 1 1 1 1 1"))), "-x^-1 from -1 to 3")
        self.assertEqual(str(clock_of(step("1 3"))), "-1/3*x^-1 from -1 to -1")
        self.assertEqual(str(clock_of(step("1 0 0 0 2"))), "-1/8*x^-4 from -4 to -4")

    def test_of_powers(self):
        for f in creeps():
            for t in map(pair, ("2", "-1", "1/2", "-7/3")):
                part = (t[1], t[0]) if t[0] > 0 else (-t[1], -t[0])
                self.assertEqual(clock_of(f.power(t)), clock_of(f).scaled(part))

    def test_behind_a_renamer(self):
        # The clock of a renamed creep put into the renamer is the clock, but for a constant.
        for f in map(step, CREEPS):
            for by in map(step, ("2 1 0 0 1 1", "-1/3 0 1 0 0 1", "1 0 0 1 2 3")):
                self.assertEqual(clock_of(f.renamed(by)).behind(by), clock_of(f))

    def test_errors(self):
        for text in NOT_SLOW:
            self.assertEqual(caught(clock_of, step(text)), ("NotSlow", {"first": numbers_of(text)[0]}))
        self.assertEqual(caught(clock_of, step("1 0")), ("IsStill", {"have": 2}))
        self.assertEqual(caught(clock_of, Step.still(24)), ("IsStill", {"have": 24}))


class CreepOfTest(unittest.TestCase):
    def test_there_and_back(self):
        for f in creeps():
            self.assertEqual(creep_of(clock_of(f)), f)
        for flat, text in ((1, "5"), (1, "-1 1 -1/2"), (2, "1/3 2 -1 1 5"), (3, "4 1 1"), (23, "-2"), (1, "3 0"),
                           (1, "3 " * 23), (11, "1/2 " * 13), (4, "1 0 0 2 0 3")):
            u = tally(flat, text)
            f = creep_of(u)
            self.assertEqual((f.order, f.flat), (u.order, u.flat))
            self.assertEqual(clock_of(f), u)

    def test_known(self):
        self.assertEqual(creep_of(tally=tally(1, "-1 0 0 0 0")), step("1 1 1 1 1 1"))
        self.assertEqual(creep_of(tally(3, "1/6")), step("1 0 0 -2"))

    def test_not_a_clock(self):
        for flat, text in ((1, "0"), (1, "0 1 1"), (2, "0 1"), (23, "0")):
            self.assertEqual(caught(creep_of, tally(flat, text)), ("NotAClock", {}))


class PlacesSumTest(unittest.TestCase):
    ANY_STEPS = CREEPS + ["0 0 0 0 0 0", "0 0 2 1 0 1", "1 0 0 0 0 0", "-1 1 1 0 0 0", "2 1 0 0 -1 1", "-1/2 0 0 1 0 0"]

    def test_any_step(self):
        for text in self.ANY_STEPS:
            f = poly(step(text))
            for w in map(row, ROWS):
                total = [Fraction(0)] * 7
                for many in range(5):
                    self.assertEqual(places_sum(w, step(text), many), as_row(total))
                    total = plus(total, put_in(poly(w), done_times(f, many)))

    def test_64_terms(self):
        f, w = step("1 1 0"), row("0 1 0 0")
        total = [Fraction(0)] * 4
        for n in range(64):
            total = plus(total, done_times(poly(f), n))
        self.assertEqual(places_sum(w, f, 64), as_row(total))
        self.assertEqual(places_sum(row("1 0 0"), step("0 0"), 64), row("64 0 0"))

    def test_against_the_gain_of_the_power(self):
        for f in creeps():
            w = some_row(f.order)
            for n in (1, 2, 5):
                u = along(w, f)
                self.assertEqual(gain(u, f.power(n)), places_sum(w, f, n).numbers()[:f.order - f.flat])

    def test_by_name_and_unchanged(self):
        w, f = row("1 2 3"), step("1 2")
        self.assertEqual(places_sum(many=2, step=f, row=w), row("2 4 10"))
        self.assertEqual((w, f), (row("1 2 3"), step("1 2")))

    def test_errors_in_order(self):
        self.assertEqual(caught(places_sum, row("1 1 1"), step("1 1 1"), None),
                         ("UnlikeOrders", {"one": 2, "other": 3}))
        for many in ANY_VALUES + [65, -2]:
            if many in (0, 1) and not isinstance(many, bool):
                continue
            code, told = caught(places_sum, row("1 1 1"), step("1 1"), many)
            self.assertEqual(code, "InvalidTimes")
            self.assertIs(told["value"], many)


class SummedTest(unittest.TestCase):
    def test_right(self):
        for f in creeps():
            w = some_row(f.order)
            self.assertIsNone(Summed(f, w, along(w, f)).wrong())
            self.assertIsNone(Summed(f, Row.constant((1, 1), f.order), clock_of(f)).wrong())
            beyond = w.numbers()[:f.order - f.flat] + [(50, 1)] * (f.flat + 1)
            self.assertIsNone(Summed(f, Row(beyond), along(w, f)).wrong())

    def test_title_and_attributes(self):
        f, w, u = step("1 1 1"), row("1 0 0 0"), tally(1, "-1 0")
        paper = Summed(f, w, u)
        self.assertEqual((paper.title, paper.creep, paper.row, paper.tally), ("summed", f, w, u))
        self.assertIsInstance(paper, Paper)
        self.assertIsNone(Summed(tally=u, row=w, creep=f).wrong())

    def test_check_0(self):
        f, w, u = step("1 1 1"), row("1 0 0 0"), tally(1, "-1 0")
        self.assertEqual(Summed(step("2 1"), w, u).wrong(), (0, 0))
        self.assertEqual(Summed(step("1 1 1 1"), w, u).wrong(), (0, 0))
        self.assertEqual(Summed(f, row("1 0 0"), u).wrong(), (0, 0))
        self.assertEqual(Summed(f, w, tally(1, "-1")).wrong(), (0, 0))
        self.assertEqual(Summed(f, w, tally(2, "-1 0")).wrong(), (0, 0))

    def test_check_1(self):
        w, u = row("1 0 0 0"), tally(1, "-1 0")
        for text in NOT_SLOW + ["1 0 0"]:
            self.assertEqual(Summed(step(text), w, u).wrong(), (1, 1))

    def test_check_2(self):
        w = row("1 0 0 0")
        self.assertEqual(Summed(step("1 0 1"), w, tally(1, "-1 0")).wrong(), (2, 0))
        self.assertEqual(Summed(step("1 1 1"), w, tally(2, "-1")).wrong(), (2, 0))

    def test_check_3(self):
        for f in creeps():
            w = some_row(f.order)
            u = along(w, f)
            for place in range(f.order - f.flat):
                numbers = w.numbers()
                for later in range(place, f.order + 1):
                    numbers[later] = pair(Fraction(*numbers[later]) + 1)
                self.assertEqual(Summed(f, Row(numbers), u).wrong(), (3, place))
                spoilt = u.numbers()
                spoilt[place] = pair(Fraction(*spoilt[place]) + 1)
                self.assertEqual(Summed(f, w, Tally(f.flat, spoilt)).wrong(), (3, place))


class DefinedHereTest(unittest.TestCase):
    def test_names(self):
        for name in ("Summed", "gain", "along", "share", "clock_of", "creep_of", "places_sum"):
            self.assertEqual(getattr(clocks, name).__module__, "creepclocks.clocks")
        self.assertEqual(Summed.__bases__, (Paper,))
        self.assertIn("wrong", vars(Summed))


if __name__ == "__main__":
    unittest.main()
