import unittest
from fractions import Fraction

from creepclocks import partings
from creepclocks.papers import Paper
from creepclocks.partings import Parting, bare_flip, is_pure, parted
from creepclocks.steps import Step
from tests.helper import (
    ANY_VALUES, as_step, caught, numbers_of, pairs, plus, poly, put_in, renamed_poly, step, times, unit, way_back,
)

LOST = ["0 0", "0 0 0 0 0", "0 1", "0 -1/3 0 0 1", "0 0 2 1 0", "0 0 0 0 7"]
SLOW = ["1 0", "1 0 0 0 0", "1 1", "1 -3/2", "1 1 0 0 0", "1 0 -1/2 3 1", "1 0 0 0 5/7", "1 1/2 1/3 1/4 1/5 1/6 1/7"]
BARE = ["-1 0", "-1 1", "-1 0 0 0 0", "-1 5/2", "-1 1 -1", "-1 1 -1 2 -4", "-1 1 -1 5 -13 54", "-1 0 0 1/2 0 3 -1/2"]
FLIPS = ["-1 0 1", "-1 1 0", "-1 1 -1 2 -3", "-1 0 0 2/3 1", "-1 1 1 0 0 0", "-1 2 -4 1/3 5 0 1", "-1 0 1/2 0 3 0 -2"]
STRETCHES = ["2 0", "2 3", "-2 1 0", "2 0 1/2 0 -1", "-5/3 1 0 1/2 -2", "1/2 0 0 0 1", "3 1 1 1 1 1 1"]
TURNABLE = SLOW + BARE + FLIPS + STRETCHES
HIGH = [Step(pairs(lead, *[Fraction(k % 5 - 2, k) for k in range(2, 25)])) for lead in (1, -1, 2, Fraction(-3, 2))]


def tried(text):
    return [step(part) for part in text]


class PartedTest(unittest.TestCase):
    def test_right_by_putting_in(self):
        for f in tried(TURNABLE) + HIGH:
            paper = parted(f)
            pure, slow, h = poly(paper.pure), poly(paper.slow), poly(paper.straightener)
            self.assertEqual(slow[1], 1)
            self.assertNotEqual(h[1], 0)
            self.assertEqual(as_step(put_in(pure, slow)), f)
            self.assertEqual(as_step(put_in(slow, pure)), f)
            self.assertEqual(put_in(h, pure), [pure[1] * number for number in h])
            self.assertIsNone(paper.wrong())

    def test_lead_1(self):
        for f in tried(SLOW) + HIGH[:1]:
            paper = parted(f)
            still = Step.still(f.order)
            self.assertEqual((paper.pure, paper.slow, paper.straightener), (still, f, still))

    def test_lead_minus_1(self):
        for f in tried(BARE + FLIPS) + HIGH[1:2]:
            paper = parted(f)
            self.assertEqual(paper.slow * paper.slow, f * f)
            self.assertEqual(paper.slow.lead, (1, 1))
            self.assertEqual(paper.pure, as_step(put_in(poly(f), way_back(poly(paper.slow)))))
            self.assertEqual(put_in(poly(paper.pure), poly(paper.pure)), unit(f.order, 1))
            halved = [number / 2 for number in plus(unit(f.order, 1), poly(paper.pure), -1)]
            self.assertEqual(paper.straightener, as_step(halved))

    def test_bare_flips(self):
        for f in tried(BARE):
            self.assertEqual((parted(f).pure, parted(f).slow), (f, Step.still(f.order)))

    def test_slow_part_of_a_flip_has_an_even_flat(self):
        for f in tried(FLIPS) + HIGH[1:2]:
            self.assertEqual(parted(f).slow.kind, "creep")
            self.assertEqual(parted(f).slow.flat % 2, 0)

    def test_other_leads(self):
        for f in tried(STRETCHES) + HIGH[2:]:
            paper = parted(f)
            self.assertEqual((paper.pure, paper.slow), (f, Step.still(f.order)))
            self.assertEqual(paper.straightener.lead, (1, 1))

    def test_known_straightener(self):
        # x/(1 - x) renamed: 2x/(1 + x) is 2x in the letter x/(1 - x).
        f = step("2 -2 2 -2 2 -2")
        self.assertEqual(parted(f).straightener, step("1 1 1 1 1 1"))

    def test_example(self):
        paper = parted(step("-1 1 1 0 0 0"))
        self.assertEqual([str(paper.pure), str(paper.slow), paper.wrong()],
                         ["-x + x^2 - x^3 + 5*x^4 - 13*x^5 + 54*x^6 to 6",
                          "x - 2*x^3 + x^4 - 5*x^5 + 5*x^6 to 6", None])

    def test_parts_go_along_with_renaming(self):
        by = step("3 1 0 -1 1/2")
        for text in ("1 1 0 0 0", "-1 1 1 2 -4", "-1 0 0 2/3 1", "2 0 1/2 0 -1"):
            f = step(text)
            one, other = parted(f), parted(as_step(renamed_poly(poly(f), poly(by))))
            self.assertEqual(other.pure, as_step(renamed_poly(poly(one.pure), poly(by))))
            self.assertEqual(other.slow, as_step(renamed_poly(poly(one.slow), poly(by))))

    def test_cant_turn(self):
        for text in LOST:
            self.assertEqual(caught(parted, step(text)), ("CantTurn", {}))

    def test_by_name_and_unchanged(self):
        f = step("-1 1 1 0")
        self.assertIs(parted(step=f).step, f)
        self.assertEqual(f, step("-1 1 1 0"))


class IsPureTest(unittest.TestCase):
    def test_every_kind(self):
        for text in LOST + SLOW[2:] + FLIPS:
            self.assertIs(is_pure(step(text)), False, text)
        for text in SLOW[:2] + BARE + STRETCHES:
            self.assertIs(is_pure(step(text)), True, text)
        self.assertIs(is_pure(step=step("-1 0")), True)

    def test_pure_parts_are_pure(self):
        for f in tried(TURNABLE) + HIGH:
            paper = parted(f)
            self.assertTrue(is_pure(paper.pure))
            self.assertEqual(is_pure(paper.slow), paper.slow == Step.still(f.order))
            self.assertEqual(is_pure(f), paper.slow == Step.still(f.order))


class BareFlipTest(unittest.TestCase):
    def test_each_order(self):
        for order in range(2, 25):
            evens = pairs(*[Fraction((-1) ** k * k, k + 2) for k in range(1, order // 2 + 1)])
            flip = bare_flip(evens, order)
            self.assertEqual((flip.order, flip.lead), (order, (-1, 1)))
            self.assertEqual(flip.numbers()[1::2], evens)
            self.assertEqual(put_in(poly(flip), poly(flip)), unit(order, 1))

    def test_odd_numbers(self):
        flip = poly(bare_flip(numbers_of("1 -2/3 5"), 7))
        for place in (3, 5, 7):
            without = flip[:place] + [Fraction(0)]
            self.assertEqual(flip[place], put_in(without, without)[place] / 2)

    def test_known(self):
        self.assertEqual(bare_flip([(0, 1)], 2), step("-1 0"))
        self.assertEqual(bare_flip([(3, 1)], 2), step("-1 3"))
        self.assertEqual(bare_flip([(3, 1)], 3), step("-1 3 -9"))
        self.assertEqual(bare_flip(numbers_of("1 5 54"), 6), step("-1 1 -1 5 -13 54"))
        # -x/(1 + x) is its own way back.
        self.assertEqual(bare_flip(numbers_of("1 1 1"), 7), step("-1 1 -1 1 -1 1 -1"))

    def test_numbers_at_even_places_give_all_bare_flips(self):
        for f in tried(BARE + FLIPS):
            self.assertEqual(bare_flip(f.numbers()[1::2], f.order) == f, is_pure(f))

    def test_lists(self):
        evens = numbers_of("1 2")
        self.assertEqual(bare_flip(tuple(evens), 4), bare_flip(numbers=evens, order=4))
        self.assertEqual(evens, numbers_of("1 2"))

    def test_errors_in_order(self):
        for order in (1, 25, 0, -2, True, None, "4", (4, 1), [4]):
            self.assertEqual(caught(bare_flip, None, order), ("InvalidOrder", {"value": order}))
            self.assertEqual(caught(bare_flip, [None], order), ("InvalidOrder", {"value": order}))
        for numbers in (None, "12", 3, [], [(1, 1)], [(1, 1)] * 3, ((1, 1),), [None], [None] * 3, step("1 1")):
            self.assertEqual(caught(bare_flip, numbers, 4), ("InvalidFraction", {"at": -1}))
            self.assertEqual(caught(bare_flip, numbers, 5), ("InvalidFraction", {"at": -1}))
        for wrong in ANY_VALUES:
            self.assertEqual(caught(bare_flip, [wrong], 2), ("InvalidFraction", {"at": 0}))
            self.assertEqual(caught(bare_flip, [wrong, None], 4), ("InvalidFraction", {"at": 0}))
            self.assertEqual(caught(bare_flip, ((1, 1), wrong), 5), ("InvalidFraction", {"at": 1}))


class PartingTest(unittest.TestCase):
    def right(self, text="-1 1 1 0"):
        paper = parted(step(text))
        return [paper.step, paper.pure, paper.slow, paper.straightener]

    def test_title_and_attributes(self):
        parts = self.right()
        paper = Parting(*parts)
        self.assertEqual(paper.title, "parting")
        self.assertEqual([paper.step, paper.pure, paper.slow, paper.straightener], parts)
        self.assertIsInstance(paper, Paper)
        named = Parting(straightener=parts[3], slow=parts[2], pure=parts[1], step=parts[0])
        self.assertIsNone(named.wrong())

    def test_right(self):
        self.assertIsNone(Parting(*self.right()).wrong())
        # Multiples of a straightener straighten, too, and the parts of a step may be parted themselves.
        f, pure, slow, h = self.right()
        self.assertIsNone(Parting(f, pure, slow, Step.scaling((-7, 2), 4) * h).wrong())
        self.assertIsNone(Parting(slow, Step.still(4), slow, step("2 1 1 1")).wrong())
        self.assertIsNone(Parting(step("0 0"), step("0 0"), step("1 3"), step("1 0")).wrong())

    def test_check_0(self):
        for at in range(4):
            parts = self.right()
            parts[at] = parts[at].gone_on([(1, 1)])
            self.assertEqual(Parting(*parts).wrong(), (0, 0))
        self.assertEqual(Parting(step("0 1"), step("0 1"), step("2 1"), step("0 1 1")).wrong(), (0, 0))

    def test_check_1(self):
        f, pure, slow, h = self.right()
        self.assertEqual(Parting(f, pure, step("2 0 0 0"), h).wrong(), (1, 1))
        self.assertEqual(Parting(f, slow, pure, h).wrong(), (1, 1))
        self.assertEqual(Parting(f, pure, step("0 0 0 0"), step("0 1 0 0")).wrong(), (1, 1))

    def test_check_2(self):
        f, pure, slow, h = self.right()
        self.assertEqual(Parting(f, pure, slow, step("0 1 0 0")).wrong(), (2, 1))
        self.assertEqual(Parting(f, f, slow, step("0 0 0 0")).wrong(), (2, 1))

    def test_check_3(self):
        f, pure, slow, h = self.right()
        for place in range(1, 5):
            spoilt = poly(f)
            spoilt[place] += 3
            self.assertEqual(Parting(as_step(spoilt), pure, slow, h).wrong(), (3, place))
            spoilt[4] += 2
            self.assertEqual(Parting(as_step(spoilt), pure, slow, h).wrong(), (3, place))
        self.assertEqual(Parting(f, f, slow, h).wrong(), (3, 3))

    def test_check_4(self):
        # The two do not trade, so only one of the ways round gives the step.
        pure, slow = step("-1 0 0 0"), step("1 1 0 0")
        self.assertEqual(Parting(pure * slow, pure, slow, Step.still(4)).wrong(), (4, 2))
        pure, slow = step("2 0 0 0"), step("1 0 0 1")
        self.assertEqual(Parting(pure * slow, pure, slow, Step.still(4)).wrong(), (4, 4))
        self.assertEqual(Parting(slow * pure, pure, slow, Step.still(4)).wrong(), (3, 4))

    def test_check_5(self):
        f, pure, slow, h = self.right()
        self.assertEqual(Parting(f, pure, slow, Step.still(4)).wrong(), (5, 2))
        for place in (2, 4):
            spoilt = poly(h)
            spoilt[place] += 1
            self.assertEqual(Parting(f, pure, slow, as_step(spoilt)).wrong(), (5, place))
        # h + d h^3 straightens a flip as well as h does.
        further = plus(poly(h), times(times(poly(h), poly(h)), poly(h)), 5)
        self.assertIsNone(Parting(f, pure, slow, as_step(further)).wrong())
        self.assertEqual(Parting(slow, slow, Step.still(4), Step.still(4)).wrong(), (5, 3))


class DefinedHereTest(unittest.TestCase):
    def test_names(self):
        for name in ("Parting", "parted", "is_pure", "bare_flip"):
            self.assertEqual(getattr(partings, name).__module__, "creepclocks.partings")
        self.assertEqual(Parting.__bases__, (Paper,))
        self.assertIn("wrong", vars(Parting))


if __name__ == "__main__":
    unittest.main()
