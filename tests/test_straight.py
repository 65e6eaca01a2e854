import unittest
from fractions import Fraction

from creepclocks import straight
from creepclocks.clocks import clock_of
from creepclocks.drifts import drift_of
from creepclocks.likeness import three_numbers
from creepclocks.partings import parted
from creepclocks.steps import Step
from creepclocks.straight import plain_creep, straight_form
from tests.helper import (
    ANY_VALUES, as_drift, as_step, caught, fractions_of, numbers_of, one_over, pair, pairs, poly, put_in, renamed_poly,
    step, way_back,
)

# Creeps of the flats 1 to 5 at orders below, at and above 2k + 1.
CREEPS = ["1 1", "1 -2/3", "1 1 0", "1 2 3 4", "1 -3/2 1 0 2 1", "1 1/2 -1 3 0 2 1 5 -1/3",
          "1 0 5", "1 0 -1/2 3", "1 0 1 0 0", "1 0 -1/2 3 1", "1 0 4 1 -1 0 2 1/3 7",
          "1 0 0 2", "1 0 0 2 -1", "1 0 0 -3 1 1", "1 0 0 2 1 1 5", "1 0 0 2 1 1 -1/2 3 1 0 2",
          "1 0 0 0 7 1 2 3", "1 0 0 0 -1/5 1 2 3 4", "1 0 0 0 0 -3", "1 0 0 0 0 2 1 1 1 1 1 1"]
BARE = ["-1 0", "-1 1", "-1 1 -1", "-1 0 0 0 0 0", "-1 1 -1 5 -13 54", "-1 0 0 1/2 0 3 -1/2"]
FLIPS = ["-1 0 1", "-1 1 0", "-1 2 3 1", "-1 1 -1 2 -3", "-1 0 2 0 1", "-1 1 1 0 0 0", "-1 0 1/2 0 3 0 -2",
         "-1 2 -4 1/3 5 0 1 1", "-1 0 0 2/3 1", "-1 0 0 0 2 1 1 1 3"]
STRETCHES = ["2 0", "2 3", "-2 1 0", "2 0 1/2 0 -1", "-5/3 1 0 1/2 -2", "1/2 0 0 0 1"]
CRUSHES = ["0 1", "0 -2/3", "0 1 1 0 0 0", "0 -1/2 3 0 1 1 2", "0 0 3", "0 0 2 1", "0 0 -1 1 1 0 2 1 1", "0 0 0 5",
           "0 0 0 1 -2 1/2 0 0 1", "0 0 0 0 0 7", "0 0 0 0 2 1 1"]
HIGH = [Step(pairs(*[0] * (height - 1), lead, *[0] * (flat - 1), *[Fraction(k % 5 - 2, k) for k in
        range(height + flat, 25)])) for height, lead, flat in
        ((1, 1, 1), (1, 1, 2), (1, 1, 11), (1, 1, 12), (1, 1, 23), (1, -1, 1), (1, -1, 4), (2, Fraction(-2, 3), 1),
         (5, 3, 1), (13, 1, 1), (1, -2, 1))]


def checked(case, f):
    """The polys of the straight form and the own renamer of a step, which leads from the step to the form."""
    form, renamer = straight_form(f)
    big, p = poly(form), poly(renamer)
    case.assertEqual(form.order, f.order)
    case.assertEqual(p[1], 1)
    case.assertEqual(put_in(p, poly(f)), put_in(big, p))
    return big, p


class PlainCreepTest(unittest.TestCase):
    def test_drift(self):
        for order in (2, 3, 4, 5, 7, 12, 24):
            for flat in range(1, order):
                for a, r in ((Fraction(1), Fraction(2)), (Fraction(-2, 3), Fraction(5)), (Fraction(3), Fraction(0))):
                    log = pair(r) if order > 2 * flat else None
                    below = [Fraction(1)] + [Fraction(0)] * order
                    if log is not None:
                        below[flat] = a * r
                    drift = ([Fraction(0)] * (flat + 1) + [a * number for number in one_over(below)])[:order + 1]
                    self.assertEqual(drift_of(plain_creep(order, flat, pair(a), log)), as_drift(drift))

    def test_three_numbers_and_clock(self):
        for flat in range(1, 8):
            for order in (flat + 1, 2 * flat, 2 * flat + 1, 2 * flat + 2, 3 * flat + 1):
                if order > flat:
                    a = (-3, 2)
                    log = (5, 7) if order > 2 * flat else None
                    f = plain_creep(order, flat, a, log)
                    self.assertEqual(three_numbers(f), (flat, a, log))
                    clock = [Fraction(2, 3 * flat)] + [Fraction(0)] * (order - flat - 1)
                    if log is not None:
                        clock[flat] = Fraction(5, 7)
                    self.assertEqual(clock_of(f).numbers(), pairs(*clock))

    def test_known(self):
        self.assertEqual(plain_creep(6, 1, (1, 1), (0, 1)), step("1 1 1 1 1 1"))
        self.assertEqual(str(plain_creep(6, 1, (1, 1), (1, 1))), "x + x^2 - 1/2*x^4 + 1/6*x^5 + 5/12*x^6 to 6")
        self.assertEqual(plain_creep(log=None, strength=(7, 3), flat=23, order=24), Step(pairs(1, *[0] * 22, "7/3")))
        self.assertEqual(plain_creep(2, 1, (1, 5), None), step("1 1/5"))

    def test_errors_in_order(self):
        for order in (1, 25, 0, True, None, "4", (4, 1), [4]):
            self.assertEqual(caught(plain_creep, order, None, None, 3), ("InvalidOrder", {"value": order}))
        for flat in (0, -1, 5, 24, True, None, "1", (1, 1), [1]):
            self.assertEqual(caught(plain_creep, 5, flat, None, 3), ("InvalidFlat", {"value": flat}))
        for strength in ANY_VALUES + [(0, 1)]:
            self.assertEqual(caught(plain_creep, 5, 2, strength, 3), ("InvalidNumber", {"value": strength}))
            self.assertEqual(caught(plain_creep, 5, 3, strength, 3), ("InvalidNumber", {"value": strength}))

    def test_log_that_must_be_a_fraction(self):
        for order, flat in ((3, 1), (5, 2), (6, 2), (24, 11)):
            for log in ANY_VALUES:
                code, told = caught(plain_creep, order, flat, (1, 1), log)
                self.assertEqual(code, "InvalidNumber")
                self.assertIs(told["value"], log)

    def test_log_that_must_be_none(self):
        for order, flat in ((2, 1), (4, 2), (5, 3), (24, 12), (24, 23)):
            for log in ANY_VALUES + [(0, 1), (1, 1), (-3, 2)]:
                if log is None:
                    self.assertEqual(plain_creep(order, flat, (1, 1), log).flat, flat)
                else:
                    self.assertEqual(caught(plain_creep, order, flat, (1, 1), log), ("InvalidNumber", {"value": log}))


class StraightFormTest(unittest.TestCase):
    def test_pair(self):
        for text in CREEPS + BARE + FLIPS + STRETCHES + CRUSHES + ["0 0", "1 0"]:
            made = straight_form(step(text))
            self.assertIsInstance(made, tuple)
            self.assertEqual(made, straight_form(step=step(text)))

    def test_nothing_and_still(self):
        for text in ("0 0", "0 0 0 0 0", "1 0", "1 0 0 0 0"):
            f = step(text)
            self.assertEqual(straight_form(f), (f, Step.still(f.order)))

    def test_stretches(self):
        for f in [step(text) for text in STRETCHES] + HIGH[-1:]:
            big, p = checked(self, f)
            self.assertEqual(big[2:], [0] * (f.order - 1))
            self.assertEqual(straight_form(f), (Step.scaling(f.lead, f.order), parted(f).straightener))

    def test_creeps(self):
        for f in [step(text) for text in CREEPS] + HIGH[:5]:
            big, p = checked(self, f)
            flat, strength, log = three_numbers(f)
            self.assertEqual(as_step(big), plain_creep(f.order, flat, strength, log))
            self.assertEqual(p[f.order - flat + 1:], [0] * flat)
            if f.order >= 2 * flat + 1:
                self.assertEqual(p[flat + 1], 0)

    def test_bare_flips(self):
        for text in BARE:
            f = step(text)
            big, p = checked(self, f)
            self.assertEqual(as_step(big), Step.scaling((-1, 1), f.order))
            self.assertEqual(as_step(p), parted(f).straightener)

    def test_other_flips(self):
        for f in [step(text) for text in FLIPS] + HIGH[5:7]:
            big, p = checked(self, f)
            flat, strength, log = three_numbers(f)
            plain = plain_creep(f.order, flat, strength, log)
            self.assertEqual([-number for number in big], poly(plain))
            paper = parted(f)
            h = poly(paper.straightener)
            q = put_in(p, way_back(h))
            self.assertEqual(q[2::2], [0] * (f.order // 2))
            self.assertEqual(q[f.order - flat + 1:], [0] * flat)
            if f.order >= 2 * flat + 1:
                self.assertEqual(q[flat + 1], 0)
            slow = as_step(renamed_poly(poly(paper.slow), h))
            self.assertEqual(straight_form(slow), (plain, as_step(q)))

    def test_crushes(self):
        for f in [step(text) for text in CRUSHES] + HIGH[7:10]:
            big, p = checked(self, f)
            self.assertEqual(big, [Fraction(0)] * f.height + [Fraction(*f.strength)] + [0] * (f.order - f.height))
            self.assertEqual(p[f.order - f.height + 2:], [0] * (f.height - 1))

    def test_further_numbers_spoil_it(self):
        # The places at which [18] says that a further number changes the one side less the other.
        for text in CREEPS:
            f = step(text)
            big, p = checked(self, f)
            for j in range(2, f.order - f.flat + 1):
                spoilt = list(p)
                spoilt[j] += 5
                gap = [a - b for a, b in zip(put_in(spoilt, poly(f)), put_in(big, spoilt))]
                wanted = (j - f.flat - 1) * 5 * Fraction(*f.strength)
                self.assertEqual(gap[:j + f.flat + 1], [0] * (j + f.flat) + [wanted])

    def test_forms_are_their_own_forms(self):
        for text in CREEPS + FLIPS + BARE + STRETCHES + CRUSHES:
            form = straight_form(step(text))[0]
            self.assertEqual(straight_form(form), (form, Step.still(form.order)))

    def test_same_form_for_steps_renamed_with_the_lead_1(self):
        by = numbers_of("1 1 -2 0 1/2 3 1 1 1 1 1 1")
        for text in CREEPS + FLIPS + BARE + STRETCHES + CRUSHES:
            f = step(text)
            renamed = as_step(renamed_poly(poly(f), [Fraction(0)] + fractions_of(by)[:f.order]))
            self.assertEqual(straight_form(renamed)[0], straight_form(f)[0])

    def test_examples(self):
        for text, form, renamer in (
            ("1 1 0 0 0 0", "x + x^2 - 1/2*x^4 + 1/6*x^5 + 5/12*x^6 to 6",
             "x - 1/2*x^3 + 5/6*x^4 - 17/18*x^5 to 6"),
            ("0 1 1 0 0 0", "x^2 to 6", "x + 1/2*x^2 + 1/8*x^3 + 7/16*x^4 + 11/128*x^5 to 6"),
        ):
            self.assertEqual([str(part) for part in straight_form(step(text))], [form, renamer])


class DefinedHereTest(unittest.TestCase):
    def test_names(self):
        for name in ("plain_creep", "straight_form"):
            self.assertEqual(getattr(straight, name).__module__, "creepclocks.straight")


if __name__ == "__main__":
    unittest.main()
