import unittest
from fractions import Fraction

from creepclocks import folds
from creepclocks.folds import fold, unfold
from creepclocks.likeness import is_alike, three_numbers
from creepclocks.steps import Step
from creepclocks.straight import plain_creep, straight_form
from tests.helper import (
    ANY_VALUES, as_step, caught, numbers_of, pair, pairs, poly, put_in, renamed_poly, step, times,
)

SLOW = ["1 0", "1 2", "1 0 0 0", "1 1 0", "1 -3/2 1 0 2 1", "1 0 5", "1 0 -1/2 3 1", "1 0 0 2 -1 5 1", "1 1/2 1/3 1/4"]
NOT_SLOW = ["0 0", "0 1", "-1 1", "2 0", "1/2 1"]


def spread(numbers, many):
    """g(x^m) for a poly g."""
    found = [Fraction(0)] * ((len(numbers) - 1) * many + 1)
    for place, number in enumerate(numbers):
        found[place * many] = number
    return found


def root_numbers(three, many):
    """The three numbers of a fold, from those of what is folded."""
    flat, strength, log = three
    if flat is None:
        return (None, None, None)
    log = None if log is None else pair(Fraction(*log) * many)
    return (flat * many, pair(Fraction(*strength) / many), log)


class FoldTest(unittest.TestCase):
    def test_by_putting_in(self):
        # f(x)^m is g(x^m), which is known m - 1 places beyond the order of f, since f begins with x.
        for text in SLOW:
            g = step(text)
            for many in range(1, 24 // g.order + 1):
                if many <= 12:
                    f = fold(g, many)
                    self.assertEqual((f.order, f.lead), (many * g.order, (1, 1)))
                    wide = poly(f) + [Fraction(0)] * (many - 1)
                    power = wide
                    for _ in range(many - 1):
                        power = times(power, wide)
                    wanted = spread(poly(g), many) + [Fraction(0)] * (many - 1)
                    self.assertEqual(power[:f.order + 1], wanted[:f.order + 1])

    def test_all_that_is_known_counts(self):
        # The last number of the step stands at m places below the end in the fold.
        for many in (2, 3, 6):
            self.assertEqual(fold(step("1 0 0 5"), many), Step(pairs(1, *[0] * (3 * many - 1), Fraction(5, many),
                                                                     *[0] * (many - 1))))

    def test_three_numbers(self):
        for text in SLOW:
            g = step(text)
            for many in range(1, min(12, 24 // g.order) + 1):
                self.assertEqual(three_numbers(fold(g, many)), root_numbers(three_numbers(g), many))

    def test_folds_of_folds(self):
        for text in SLOW:
            g = step(text)
            for one, other in ((1, 2), (2, 1), (2, 2), (3, 2), (2, 3)):
                if one * other * g.order <= 24:
                    self.assertEqual(fold(fold(g, one), other), fold(g, one * other))
            self.assertEqual(fold(g, 1), g)

    def test_fold_of_one_step_behind_another(self):
        for one in SLOW:
            for other in SLOW:
                g, h = step(one), step(other)
                if g.order == h.order:
                    for many in (2, 3):
                        self.assertEqual(fold(g * h, many), fold(g, many) * fold(h, many))
        g = step("1 1/2 1/3 1/4")
        self.assertEqual(fold(g.power((2, 3)), 5), fold(g, 5).power((2, 3)))
        self.assertEqual(fold(~g, 6), ~fold(g, 6))

    def test_known(self):
        self.assertEqual(str(fold(step("1 1 0"), 2)), "x + 1/2*x^3 - 1/8*x^5 to 6")
        self.assertEqual(fold(step=step("1 0"), times=12), Step.still(24))
        self.assertEqual(fold(Step.still(24), 1), Step.still(24))
        # x/(1 - x) folded twice is x/(1 - x^2)^(1/2).
        self.assertEqual(fold(step("1 1 1 1"), 2), step("1 0 1/2 0 3/8 0 5/16 0"))

    def test_errors_in_order(self):
        for text in NOT_SLOW:
            for many in (1, 2, 13, None):
                self.assertEqual(caught(fold, step(text), many), ("NotSlow", {"first": numbers_of(text)[0]}))
        for f in (step("1 1"), Step.still(24)):
            for many in ANY_VALUES + [13, -1, (2, 1)]:
                if many != 1 or many is True:
                    code, told = caught(fold, f, many)
                    self.assertEqual(code, "InvalidTimes")
                    self.assertIs(told["value"], many)
        for order, many in ((24, 2), (13, 2), (3, 9), (9, 3), (24, 12), (5, 5)):
            self.assertEqual(caught(fold, Step.still(order), many), ("InvalidOrder", {"value": order * many}))


class UnfoldTest(unittest.TestCase):
    CREEPS = ["1 1", "1 -2/3 0 1", "1 0 3 1", "1 0 -1/2 3 1 1", "1 0 2 3 1 0 1 1", "1 0 0 2 -1 5", "1 0 0 2 1 1 5 0 3",
              "1 0 0 0 5/7 1 2 1", "1 0 0 0 -2 1 0 3 1 1 1 1", "1 0 0 0 0 0 3 1 1 1 1 2",
              "1 0 0 0 0 0 4 1 1 1 1 2 1 1 1 1 1 1", "1 " + "0 " * 11 + "1 " * 12]

    def counts(self, f):
        return [many for many in range(1, 13)
                if f.order % many == 0 and f.order // many >= 2 and f.flat % many == 0]

    def test_by_putting_in(self):
        for text in self.CREEPS:
            f = step(text)
            for many in self.counts(f):
                made = unfold(f, many)
                self.assertIsInstance(made, tuple)
                under, renamer = made
                flat, strength, log = three_numbers(f)
                self.assertEqual(under.order, f.order // many)
                below = None if log is None else pair(Fraction(*log) / many)
                wanted = plain_creep(f.order // many, flat // many, pair(Fraction(*strength) * many), below)
                self.assertEqual(under, wanted)
                folded = fold(under, many)
                self.assertEqual(put_in(poly(renamer), poly(f)), put_in(poly(folded), poly(renamer)))
                self.assertEqual((folded, renamer), straight_form(f))
                self.assertTrue(is_alike(folded, f))

    def test_several_counts_are_tried(self):
        self.assertEqual([len(self.counts(step(text))) for text in self.CREEPS], [1, 1, 2, 2, 2, 2, 2, 3, 3, 4, 4, 6])

    def test_back_from_a_fold_in_other_letters(self):
        by = numbers_of("1 1 -2 0 1/2 3 1 1")
        g = plain_creep(4, 1, (3, 2), (5, 1))
        renamed = as_step(renamed_poly(poly(fold(g, 2)), poly(Step(by))))
        self.assertEqual(unfold(renamed, 2)[0], g)
        g = plain_creep(4, 2, (3, 2), None)
        renamed = as_step(renamed_poly(poly(fold(g, 2)), poly(Step(by))))
        self.assertEqual(unfold(renamed, 2)[0], g)

    def test_once(self):
        for text in self.CREEPS:
            f = step(text)
            self.assertEqual(unfold(f, 1), straight_form(f))
            self.assertEqual(unfold(step=f, times=1), straight_form(f))

    def test_example(self):
        f = fold(step("1 1 0"), 2)
        under, renamer = unfold(f, 2)
        self.assertEqual([str(f), str(under)], ["x + 1/2*x^3 - 1/8*x^5 to 6", "x + x^2 to 3"])
        self.assertEqual(f.renamed(renamer), fold(under, 2))

    def test_errors_in_order(self):
        for text in NOT_SLOW:
            self.assertEqual(caught(unfold, step(text), None), ("NotSlow", {"first": numbers_of(text)[0]}))
        for order in (2, 3, 24):
            for many in (1, 2, None):
                self.assertEqual(caught(unfold, Step.still(order), many), ("IsStill", {"have": order}))
        for many in ANY_VALUES + [13, -1, (2, 1)]:
            if many != 1 or many is True:
                code, told = caught(unfold, step("1 1 1"), many)
                self.assertEqual(code, "InvalidTimes")
                self.assertIs(told["value"], many)

    def test_not_folded(self):
        # The order is looked at first, and its quotient too, and then the flat.
        for text, many, value in (("1 1", 2, 2), ("1 0 1", 2, 3), ("1 0 1", 3, 3), ("1 1 1", 3, 3), ("1 1 1 1", 3, 4),
                                  ("1 0 1 0 0", 2, 5), ("1 1 0 0 0", 2, 5), ("1 0 0 1 1 1 1", 3, 7),
                                  ("1 0 0 0 1", 4, 5), ("1 0 0 0 0 1", 6, 6), ("1 0 1 0 1 1", 12, 6),
                                  ("1 1 1 1", 2, 1), ("1 0 1 1 1 1", 3, 2), ("1 0 0 1 1 1", 2, 3),
                                  ("1 0 1 0 0 0 0 0", 4, 2), ("1 0 0 0 0 1", 2, 5), ("1 0 0 0 0 1", 3, 5)):
            self.assertEqual(caught(unfold, step(text), many), ("NotFolded", {"value": value}), (text, many))

    def test_unchanged(self):
        f = step("1 0 3 1")
        unfold(f, 2)[0].numbers().clear()
        fold(f, 2).numbers().clear()
        self.assertEqual(f, step("1 0 3 1"))


class DefinedHereTest(unittest.TestCase):
    def test_names(self):
        for name in ("fold", "unfold"):
            self.assertEqual(getattr(folds, name).__module__, "creepclocks.folds")


if __name__ == "__main__":
    unittest.main()
