import unittest
from fractions import Fraction

from creepclocks import roots
from creepclocks.papers import Paper
from creepclocks.partings import bare_flip, parted
from creepclocks.roots import Rooted, Roots
from creepclocks.steps import Step
from creepclocks.straight import straight_form
from tests.helper import (
    ANY_VALUES, as_step, caught, done_times, fractions_of, numbers_of, pair, pairs, poly, put_in, renamed_poly, step,
    way_back,
)

LOST = ["0 0", "0 0 0 0", "0 1", "0 0 -2 1"]
STILL = ["1 0", "1 0 0", "1 0 0 0 0 0"]
ODD_FLATS = ["1 1", "1 -3/2 1 0 2 1", "1 0 0 2 -1 5", "1 0 0 -2/7", "1 0 0 0 0 3 1"]
EVEN_FLATS = ["1 0 3", "1 0 -1/2 3", "1 0 2 3 1 0", "1 0 1 0 0 0 0", "1 0 0 0 5/7", "1 0 0 0 -2 1 0 3 1 1"]
BARE = ["-1 0", "-1 1", "-1 1 -1", "-1 0 0 0 0 0", "-1 1 -1 5 -13 54"]
FLIPS = ["-1 0 1", "-1 1 0", "-1 2 3 1", "-1 1 1 0 0 0", "-1 0 1/2 0 3 0 -2"]
STRETCHES = ["2 1 0", "-2 0 1", "4 0 0", "4 1 -1 1/2", "-8 1 0 0", "8/27 1 1", "1/4096 1 0", "-1/32 0 3 1", "64 1 1 1"]
PARTS = (1, 2, 3, 4, 8, 16, 27, 32, 64, 4096)
TRIED_LEADS = sorted({Fraction(sign * p, q) for sign in (1, -1) for p in PARTS for q in PARTS})
TURNABLE = STILL + ODD_FLATS + EVEN_FLATS + BARE + FLIPS + STRETCHES


def drawn(many, seed=0):
    return pairs(*[Fraction((seed * 5 + 3 * k) % 7 - 3, k % 2 + 1) for k in range(many)])


def is_root(root, times, f):
    return as_step(done_times(poly(root), times)) == f


class ValuesTest(unittest.TestCase):
    def test_values(self):
        for text in TURNABLE:
            f = step(text)
            for times in range(1, 13):
                made = Roots(f, times)
                self.assertEqual((made.step, made.times), (f, times))
                wanted = times % 2 == 0 and text in STILL + EVEN_FLATS
                self.assertIs(made.flipping, wanted)
                self.assertEqual(repr(made), f"Roots({times} times)")
        self.assertEqual(Roots(times=2, step=step("2 1")).times, 2)

    def test_places(self):
        for text, wanted in (("1 0", [2]), ("1 0 0", [2]), ("1 0 0 0 0 0", [2, 4, 6]), ("1 0 3", [2]),
                             ("1 0 -1/2 3", [4]), ("1 0 2 3 1 0", [6]), ("1 0 1 0 0 0 0", [6]),
                             ("1 0 0 0 5/7", [2, 4]), ("1 0 0 0 -2 1 0 3 1 1", [8, 10]),
                             ("1 0 0 0 -2 1 0 3 1", [6, 8])):
            for times in (2, 4, 12):
                made = Roots(step(text), times)
                self.assertEqual(made.places(), wanted, text)
                made.places().clear()
                self.assertEqual(made.places(), wanted)
            for times in (1, 3, 11):
                self.assertEqual(Roots(step(text), times).places(), [])
        self.assertEqual(Roots(Step.still(24), 2).places(), list(range(2, 25, 2)))
        self.assertEqual(Roots(Step(pairs(1, *[0] * 21, 1, 5)), 2).places(), list(range(4, 25, 2)))
        for text in ODD_FLATS + BARE + FLIPS + STRETCHES:
            self.assertEqual(Roots(step(text), 2).places(), [])

    def test_errors_in_order(self):
        for text in LOST:
            self.assertEqual(caught(Roots, step(text), 2), ("CantTurn", {}))
            self.assertEqual(caught(Roots, step(text), None), ("CantTurn", {}))
        for text in TURNABLE:
            for times in ANY_VALUES + [13, -2, (2, 1)]:
                if times != 1 or times is True:
                    code, told = caught(Roots, step(text), times)
                    self.assertEqual(code, "InvalidTimes")
                    self.assertIs(told["value"], times)


class SingleTest(unittest.TestCase):
    def test_each_is_a_root_and_leads_ascend(self):
        for text in TURNABLE:
            f = step(text)
            for times in range(1, 13):
                made = Roots(f, times)
                found = made.single()
                self.assertIsInstance(found, list)
                leads = [Fraction(*root.lead) for root in found]
                self.assertEqual(leads, sorted(set(leads)))
                for root in found:
                    self.assertTrue(is_root(root, times, f))
                    self.assertIs(root in made, True)

    def test_once(self):
        for text in TURNABLE:
            self.assertEqual(Roots(step(text), 1).single(), [step(text)])

    def test_slow_steps(self):
        for text in STILL + ODD_FLATS + EVEN_FLATS:
            for times in range(1, 13):
                root = Roots(step(text), times).single()
                self.assertEqual(root, [step(text).power((1, times))])

    def test_stretches(self):
        for text in STRETCHES:
            f = step(text)
            h = poly(parted(f).straightener)
            for times in range(1, 13):
                found = Roots(f, times).single()
                wanted = [d for d in TRIED_LEADS if d ** times == Fraction(*f.lead)]
                self.assertEqual([root.lead for root in found], pairs(*wanted), (text, times))
                for d, root in zip(wanted, found):
                    self.assertEqual(root, as_step(put_in(way_back(h), [d * number for number in h])))

    def test_stretches_with_two_one_or_no_roots(self):
        for text, times, leads in (("4 1 0", 2, "-2 2"), ("4 1 0", 3, ""), ("4 1 0", 4, ""), ("-4 1 0", 2, ""),
                                   ("-8 1 0", 3, "-2"), ("8/27 1 0", 3, "2/3"), ("8/27 1 0", 6, ""),
                                   ("64 1 0", 6, "-2 2"), ("64 1 0", 3, "4"), ("1/4096 1 0", 12, "-1/2 1/2"),
                                   ("2 1 0", 2, ""), ("-2048 1 0", 11, "-2")):
            self.assertEqual([root.lead for root in Roots(step(text), times).single()], numbers_of(leads))

    def test_flips(self):
        for text in BARE + FLIPS:
            f = step(text)
            paper = parted(f)
            for times in range(1, 13):
                found = Roots(f, times).single()
                if times % 2 == 0:
                    self.assertEqual(found, [])
                else:
                    part = poly(paper.slow.power((1, times)))
                    self.assertEqual(found, [as_step(put_in(poly(paper.pure), part))])

    def test_returned_lists_are_new(self):
        made = Roots(step("4 1"), 2)
        made.single().clear()
        self.assertEqual(len(made.single()), 2)


class FlipTest(unittest.TestCase):
    def test_roots_of_still(self):
        for text in STILL + ["1 " + "0 " * 23]:
            f = step(text)
            for times in (2, 6, 12):
                made = Roots(f, times)
                evens = drawn(f.order // 2, times)
                self.assertEqual(made.flip(evens), bare_flip(evens, f.order))
                self.assertTrue(is_root(made.flip(evens), 2, f))

    def test_roots_of_creeps(self):
        for text in EVEN_FLATS:
            f = step(text)
            form, renamer = straight_form(f)
            for times in (2, 4, 10):
                made = Roots(f, times)
                places = made.places()
                for seed in range(3):
                    numbers = drawn(len(places), seed)
                    root = made.flip(numbers)
                    self.assertEqual(root.kind, "flip")
                    self.assertTrue(is_root(root, times, f))
                    self.assertIs(root in made, True)
                    evens = [(0, 1)] * (f.order // 2)
                    for place, number in zip(places, numbers):
                        evens[place // 2 - 1] = number
                    inner = put_in(poly(bare_flip(evens, f.order)), poly(form.power((1, times))))
                    wanted = renamed_poly(inner, way_back(poly(renamer)))
                    self.assertEqual(root, as_step(wanted))

    def test_each_choice_gives_another_root(self):
        for text in STILL + EVEN_FLATS:
            made = Roots(step(text), 2)
            many = len(made.places())
            found = [made.flip([(0, 1)] * many)]
            for at in range(many):
                numbers = [(0, 1)] * many
                numbers[at] = (5, 3)
                found.append(made.flip(numbers))
            for at, one in enumerate(found):
                self.assertNotIn(one, found[:at])

    def test_flips_that_are_no_choice_are_no_roots(self):
        # -x behind the root of a plain creep is a root; another number at a lower even place spoils it.
        f = straight_form(step("1 0 2 3 1 0"))[0]
        made = Roots(f, 2)
        right = made.flip([(0, 1)])
        self.assertEqual(right, Step.scaling((-1, 1), 6) * f.power((1, 2)))
        for place in (2, 4):
            evens = [(0, 1)] * 3
            evens[place // 2 - 1] = (1, 1)
            self.assertIs(bare_flip(evens, 6) * f.power((1, 2)) in made, False)
        self.assertIs(bare_flip(numbers_of("0 0 1"), 6) * f.power((1, 2)) in made, True)

    def test_lists(self):
        made = Roots(step("1 0 0 0 5/7"), 2)
        numbers = numbers_of("1 2")
        self.assertEqual(made.flip(tuple(numbers)), made.flip(numbers=numbers))
        self.assertEqual(numbers, numbers_of("1 2"))

    def test_no_flips(self):
        for text in TURNABLE:
            for times in range(1, 13):
                made = Roots(step(text), times)
                if not made.flipping:
                    for numbers in ([], None, [(1, 1)], "x"):
                        self.assertEqual(caught(made.flip, numbers), ("NoFlips", {}))

    def test_invalid_top(self):
        for text in STILL + EVEN_FLATS:
            made = Roots(step(text), 2)
            many = len(made.places())
            for numbers in (None, "x", 1, True, step("1 1"), [], (), [(1, 1)] * (many + 1), [None] * (many + 1)):
                self.assertEqual(caught(made.flip, numbers), ("InvalidTop", {"at": -1}))
            for at in range(many):
                for wrong in ANY_VALUES:
                    numbers = [(1, 1)] * at + [wrong] + [None] * (many - at - 1)
                    self.assertEqual(caught(made.flip, numbers), ("InvalidTop", {"at": at}))


class ContainsTest(unittest.TestCase):
    def test_any_value(self):
        for text in TURNABLE:
            f = step(text)
            for times in (1, 2, 3):
                made = Roots(f, times)
                for value in ANY_VALUES + [made, f.numbers(), f.as_row(), str(f), [f], (f,)]:
                    if not isinstance(value, Step):
                        self.assertIs(value in made, False)
                for lost in (Step([(0, 1)] * f.order), Step([(0, 1)] * (f.order - 1) + [(1, 1)])):
                    self.assertIs(lost in made, False)
                for root in made.single():
                    self.assertIs(root.gone_on([(0, 1)]) in made, False)
                    if f.order > 2:
                        self.assertIs(root.cut(f.order - 1) in made, False)

    def test_spoilt_roots(self):
        for text in ODD_FLATS + EVEN_FLATS + FLIPS + STRETCHES:
            f = step(text)
            for times in (1, 2, 3):
                made = Roots(f, times)
                for root in made.single():
                    for place in range(1, f.order + 1):
                        spoilt = fractions_of(root.numbers())
                        spoilt[place - 1] += Fraction(1, 3)
                        spoilt = Step(pairs(*spoilt))
                        self.assertIs(spoilt in made, is_root(spoilt, times, f))


class RootedTest(unittest.TestCase):
    def test_right(self):
        for text in TURNABLE:
            f = step(text)
            for times in range(1, 13):
                for root in Roots(f, times).single():
                    self.assertIsNone(Rooted(f, times, root).wrong())
        self.assertIsNone(Rooted(step("0 0 0 1"), 2, step("0 1 0 0")).wrong())
        self.assertIsNone(Rooted(step("0 0"), 3, step("0 1")).wrong())

    def test_title_and_attributes(self):
        f, root = step("4 0"), step("-2 0")
        paper = Rooted(f, 2, root)
        self.assertEqual((paper.title, paper.step, paper.times, paper.root), ("rooted", f, 2, root))
        self.assertIsInstance(paper, Paper)
        self.assertIsNone(Rooted(root=root, times=2, step=f).wrong())

    def test_check_0(self):
        self.assertEqual(Rooted(step("1 0"), 2, step("1 0 0")).wrong(), (0, 0))
        self.assertEqual(Rooted(step("1 0 0"), 1, step("1 1")).wrong(), (0, 0))

    def test_check_1(self):
        self.assertEqual(Rooted(step("4 0"), 2, step("3 0")).wrong(), (1, 1))
        self.assertEqual(Rooted(step("4 0"), 3, step("2 0")).wrong(), (1, 1))
        self.assertEqual(Rooted(step("1 1"), 2, step("1 1")).wrong(), (1, 2))
        for text in ODD_FLATS + EVEN_FLATS:
            f = step(text)
            for place in range(2, f.order + 1):
                spoilt = poly(f)
                spoilt[place] += 2
                for times in (1, 2, 12):
                    self.assertEqual(Rooted(as_step(spoilt), times, f.power((1, times))).wrong(), (1, place))
        f = step("1 0 3 0 0")
        self.assertEqual(Rooted(f, 2, f.power((1, 3))).wrong(), (1, 3))


class DefinedHereTest(unittest.TestCase):
    def test_names(self):
        for name in ("Rooted", "Roots"):
            self.assertEqual(getattr(roots, name).__module__, "creepclocks.roots")
        self.assertEqual(Rooted.__bases__, (Paper,))
        self.assertIn("wrong", vars(Rooted))
        for name in ("single", "places", "flip", "__contains__", "__repr__"):
            self.assertIn(name, vars(Roots))


if __name__ == "__main__":
    unittest.main()
