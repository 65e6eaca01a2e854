import unittest
from fractions import Fraction
from itertools import product

from creepclocks import ratios
from creepclocks.ratios import (
    difference_of, fraction_text, is_below, is_fraction, power_of, product_of, quotient_of, ratio, read_fraction,
    root_of, sum_of,
)
from creepclocks.rows import Row
from creepclocks.steps import Step
from tests.helper import ANY_VALUES, caught, pair

SOME = [pair(text) for text in ("0", "1", "-1", "2", "-2", "1/2", "-1/2", "3/4", "-7/3", "10/9", "123456789/1000")]
SOME.append((10 ** 60 - 1, 10 ** 59 + 7))


class IsFractionTest(unittest.TestCase):
    def test_fractions(self):
        for value in [(0, 1), (1, 1), (-1, 1), (3, 1), (1, 2), (-3, 2), (10 ** 60 - 1, 10 ** 59)]:
            self.assertIs(is_fraction(value), True, value)

    def test_not_fractions(self):
        wrong = [(0, 2), (2, 4), (-2, 4), (3, 3), (1, 0), (0, 0), (0, -1), (1, -2), (-1, -2), (True, 1), (False, 1),
                 (1, True), (3, True), (True, True), [1, 2], [0, 1], (), (1,), (1, 2, 3), (1, 2, 0), ((1, 2), 1),
                 (1, (2, 1)), ("1", 2), (1, "2"), "1/2", "12", None, 1, 0, True, 1.5, (1.0, 2), (1, 2.0), {1: 2},
                 {1, 2}, b"ab", (None, 1), (1, None), ([1], 2), Row([(1, 1)] * 3), Step([(1, 1)] * 2), Fraction(1, 2)]
        for value in wrong:
            self.assertIs(is_fraction(value), False, value)

    def test_by_name(self):
        self.assertIs(is_fraction(value=(1, 2)), True)


class RatioTest(unittest.TestCase):
    def test_lowest_terms_and_signs(self):
        for upper, lower in product(range(-12, 13), range(-12, 13)):
            if lower != 0:
                self.assertEqual(ratio(upper, lower), pair(Fraction(upper, lower)), (upper, lower))
                self.assertTrue(is_fraction(ratio(upper, lower)))

    def test_zero(self):
        for lower in (1, -1, 5, -5, 10 ** 60):
            self.assertEqual(ratio(0, lower), (0, 1))

    def test_divided_by_zero(self):
        for upper in (0, 1, -3):
            self.assertEqual(caught(ratio, upper, 0), ("DividedByZero", {}))

    def test_by_name(self):
        self.assertEqual(ratio(lower=-4, upper=6), (-3, 2))


class ReckoningTest(unittest.TestCase):
    def test_against_fractions(self):
        for one, other in product(SOME, SOME):
            a, b = Fraction(*one), Fraction(*other)
            self.assertEqual(sum_of(one, other), pair(a + b))
            self.assertEqual(difference_of(one, other), pair(a - b))
            self.assertEqual(product_of(one, other), pair(a * b))
            self.assertIs(is_below(one, other), a < b)
            if b == 0:
                self.assertEqual(caught(quotient_of, one, other), ("DividedByZero", {}))
            else:
                self.assertEqual(quotient_of(one, other), pair(a / b))

    def test_by_name(self):
        named = {"other": (1, 3), "one": (1, 2)}
        self.assertEqual(sum_of(**named), (5, 6))
        self.assertEqual(difference_of(**named), (1, 6))
        self.assertEqual(product_of(**named), (1, 6))
        self.assertEqual(quotient_of(**named), (3, 2))
        self.assertIs(is_below(**named), False)

    def test_is_below_is_strict(self):
        self.assertIs(is_below((1, 2), (1, 2)), False)
        self.assertIs(is_below((-1, 2), (-1, 3)), True)
        self.assertIs(is_below((1, 3), (1, 2)), True)


class PowerTest(unittest.TestCase):
    def test_powers(self):
        for value in SOME[:9]:
            for n in list(range(-6, 7)) + [-64, -63, 63, 64]:
                if value == (0, 1) and n < 0:
                    self.assertEqual(caught(power_of, value, n), ("DividedByZero", {}))
                else:
                    self.assertEqual(power_of(value, n), pair(Fraction(*value) ** n), (value, n))

    def test_zero_to_the_zero(self):
        self.assertEqual(power_of((0, 1), 0), (1, 1))

    def test_invalid_powers(self):
        for n in (-65, 65, 66, 10 ** 60, -10 ** 60):
            for value in ((0, 1), (1, 1), (-2, 3)):
                self.assertEqual(caught(power_of, value, n), ("InvalidPower", {"value": n}))
        for n in ANY_VALUES:
            if isinstance(n, int) and not isinstance(n, bool) and abs(n) <= 64:
                continue
            code, told = caught(power_of, (0, 1), n)
            self.assertEqual(code, "InvalidPower")
            self.assertIs(told["value"], n)

    def test_invalid_power_ahead_of_divided_by_zero(self):
        self.assertEqual(caught(power_of, (0, 1), -65), ("InvalidPower", {"value": -65}))
        self.assertEqual(caught(power_of, (0, 1), -64), ("DividedByZero", {}))
        self.assertEqual(power_of((0, 1), 64), (0, 1))

    def test_by_name(self):
        self.assertEqual(power_of(n=-2, value=(-2, 3)), (9, 4))


class RootTest(unittest.TestCase):
    def test_roots_that_exist(self):
        for value in SOME:
            for n in range(1, 25):
                power = pair(Fraction(*value) ** n)
                wanted = pair(abs(Fraction(*value))) if n % 2 == 0 else value
                self.assertEqual(root_of(power, n), wanted, (value, n))

    def test_roots_that_do_not_exist(self):
        for n in range(2, 25):
            self.assertIsNone(root_of((2, 1), n))
            self.assertIsNone(root_of((1, 2), n))
            self.assertIsNone(root_of((2 ** n, 3), n))
            self.assertIsNone(root_of((3, 2 ** n), n))
            self.assertIsNone(root_of((-2, 1), n))
            self.assertIsNone(root_of((2 ** n + 1, 1), n))
            self.assertIsNone(root_of((2 ** n - 1, 1), n))

    def test_fractions_below_0(self):
        for n in range(1, 25):
            self.assertEqual(root_of((-1, 1), n), None if n % 2 == 0 else (-1, 1))
            self.assertEqual(root_of((-2 ** n, 3 ** n), n), None if n % 2 == 0 else (-2, 3))

    def test_zero_and_one(self):
        for n in range(1, 25):
            self.assertEqual(root_of((0, 1), n), (0, 1))
            self.assertEqual(root_of((1, 1), n), (1, 1))

    def test_near_large_powers(self):
        for n in range(2, 25):
            for base in (10 ** 15 + 37, 2 ** 64, 2 ** 64 - 1):
                self.assertEqual(root_of((base ** n, 1), n), (base, 1))
                self.assertIsNone(root_of((base ** n + 1, 1), n))
                self.assertIsNone(root_of((base ** n - 1, 1), n))
                self.assertEqual(root_of((1, base ** n), n), (1, base))

    def test_by_name(self):
        self.assertEqual(root_of(n=3, value=(-8, 27)), (-2, 3))


class FractionTextTest(unittest.TestCase):
    def test_texts(self):
        for value, text in (((-3, 2), "-3/2"), ((4, 1), "4"), ((0, 1), "0"), ((-4, 1), "-4"), ((1, 10), "1/10")):
            self.assertEqual(fraction_text(value), text)
            self.assertEqual(read_fraction(text), value)
        self.assertEqual(fraction_text(value=(1, 2)), "1/2")
        self.assertEqual(read_fraction(text="1/2"), (1, 2))

    def test_written_and_read_back(self):
        for value in SOME:
            self.assertEqual(read_fraction(fraction_text(value)), value)

    def test_long_texts_are_written(self):
        self.assertEqual(fraction_text((10 ** 3999, 1)), "1" + "0" * 3999)
        self.assertEqual(fraction_text((-1, 10 ** 3999)), "-1/1" + "0" * 3999)

    def test_refused(self):
        wrong = ["", " ", "-", "+", "/", "+1", "--1", "-0", "00", "01", "-01", "0/1", "0/2", "1/1", "-1/1", "4/1",
                 "2/4", "-2/4", "3/3", "1/0", "0/0", "-0/1", "1/-2", "-1/-2", "1/02", "01/2", "1/2/3", "1//2", "/2",
                 "1/",
                 " 1", "1 ", "1 /2", "1/ 2", "1\n", "\n1", "1/2\n", "1.0", "1e3", "1_0", "x", "1x", "a/b", "0x1", "- 1",
                 "1/+2", "\u0661", "\u00b2", "\uff11"]
        for text in wrong:
            self.assertIsNone(read_fraction(text), text)

    def test_60_and_61_digits(self):
        digits = "1" + "0" * 59
        self.assertEqual(read_fraction(digits), (10 ** 59, 1))
        self.assertEqual(read_fraction("-" + digits), (-10 ** 59, 1))
        self.assertEqual(read_fraction("3/" + digits), (3, 10 ** 59))
        self.assertEqual(read_fraction("9" * 60 + "/" + digits), (10 ** 60 - 1, 10 ** 59))
        self.assertIsNone(read_fraction(digits + "0"))
        self.assertIsNone(read_fraction("-" + digits + "0"))
        self.assertIsNone(read_fraction("3/" + digits + "0"))
        self.assertIsNone(read_fraction("9" * 61))
        self.assertIsNone(read_fraction("1" * 12000))
        self.assertIsNone(read_fraction("0" * 61))

    def test_values_that_are_no_strings(self):
        for value in ANY_VALUES:
            if not isinstance(value, str):
                self.assertIsNone(read_fraction(value))
        self.assertIsNone(read_fraction(b"1"))


class DefinedHereTest(unittest.TestCase):
    def test_functions(self):
        for name in ("is_fraction", "ratio", "sum_of", "difference_of", "product_of", "quotient_of", "power_of",
                     "is_below", "root_of", "fraction_text", "read_fraction"):
            self.assertEqual(getattr(ratios, name).__module__, "creepclocks.ratios")


if __name__ == "__main__":
    unittest.main()
