import unittest
from fractions import Fraction

from creepclocks import rows
from creepclocks.rows import Row, reciprocal, row_log, row_power
from creepclocks.steps import Step
from tests.helper import (
    ANY_VALUES, as_row, caught, fractions_of, numbers_of, pair, pairs, plus, poly, put_in, row, slope_of, step, times,
    unit,
)

ROWS = ["1 1 0 0 0", "0 0 0 0 0", "0 1/2 -3 0 5", "-2/3 0 0 1 7/5", "5 4 3 2 1", "0 0 0 0 -1"]
UNIT_ROWS = ["1 0 0 0 0 0", "1 1 0 0 0 0", "1 -2 1/3 5 0 7/2", "1 0 0 3/4 0 -1", "1 0 0 0 0 2"]
STEPS = ["0 0 0 0", "0 0 2 1", "1 0 0 0", "1 1 -1/2 0", "-1 3 0 1/7", "5/3 0 2 -2"]
EXPONENTS = [pair(text) for text in ("0", "1", "-1", "2", "-3", "1/2", "-2/3", "7/5")]


def by_binomials(numbers, t):
    """u^t from the sum of the document, with factors worked out one by one."""
    rest = [Fraction(0)] + numbers[1:]
    found, power, factor = [Fraction(0)] * len(numbers), unit(len(numbers) - 1, 0), Fraction(1)
    for j in range(len(numbers)):
        found = plus(found, power, factor)
        power = times(power, rest)
        factor = factor * (Fraction(*t) - j) / (j + 1)
    return found


class MakingTest(unittest.TestCase):
    def test_orders(self):
        for order in (2, 3, 24):
            made = Row(pairs(*range(order + 1)))
            self.assertEqual(made.order, order)
            self.assertEqual(len(made), order + 1)
            self.assertEqual(made.numbers(), pairs(*range(order + 1)))

    def test_invalid_orders(self):
        for many in (0, 1, 2, 26, 27, 100):
            self.assertEqual(caught(Row, [(1, 1)] * many), ("InvalidOrder", {"value": many - 1}))
            self.assertEqual(caught(Row, [None] * many), ("InvalidOrder", {"value": many - 1}))

    def test_no_list(self):
        for value in ANY_VALUES:
            if not isinstance(value, (list, tuple)):
                self.assertEqual(caught(Row, value), ("InvalidFraction", {"at": -1}))
        self.assertEqual(caught(Row, "1 2 3 4"), ("InvalidFraction", {"at": -1}))
        self.assertEqual(caught(Row, {(1, 1): 1}), ("InvalidFraction", {"at": -1}))

    def test_first_wrong_item(self):
        for wrong in ANY_VALUES + [(2, 4), (1, 0)]:
            for at in range(4):
                numbers = pairs(1, 2, 3, 4)
                numbers[at] = wrong
                self.assertEqual(caught(Row, numbers), ("InvalidFraction", {"at": at}))
                self.assertEqual(caught(Row, numbers[:at + 1] + [None] * (3 - at)), ("InvalidFraction", {"at": at}))

    def test_tuples_and_names(self):
        self.assertEqual(Row(tuple(numbers_of("1 2 3"))), row("1 2 3"))
        self.assertEqual(Row(numbers=numbers_of("1 2 3")), row("1 2 3"))

    def test_height(self):
        for text, height in (("1 0 0", 0), ("0 0 0", None), ("0 0 3", 2), ("0 -1/2 3", 1)):
            self.assertEqual(row(text).height, height)

    def test_lists_are_copied(self):
        given = numbers_of("1 2 3")
        made = Row(given)
        given[0] = (9, 1)
        given.append((9, 1))
        told = made.numbers()
        told[1] = (9, 1)
        told.clear()
        self.assertEqual(made.numbers(), numbers_of("1 2 3"))
        self.assertEqual(len(made), 3)
        self.assertIsInstance(made.numbers(), list)

    def test_constant(self):
        made = Row.constant((-3, 2), 4)
        self.assertEqual(made.numbers(), numbers_of("-3/2 0 0 0 0"))
        self.assertEqual(Row.constant(order=2, value=(0, 1)), row("0 0 0"))
        self.assertEqual(Row.constant((1, 1), 24).order, 24)
        self.assertEqual(caught(Row.constant, 3, 1), ("InvalidNumber", {"value": 3}))
        for order in (1, 25, 0, -2, True, None, "4", (4, 1), [4]):
            self.assertEqual(caught(Row.constant, (1, 1), order), ("InvalidOrder", {"value": order}))
        for value in ANY_VALUES:
            self.assertEqual(caught(Row.constant, value, None), ("InvalidNumber", {"value": value}))


class ReadingOffTest(unittest.TestCase):
    def test_number(self):
        made = row("1 2 3 4")
        self.assertEqual([made.number(place) for place in range(4)], numbers_of("1 2 3 4"))
        self.assertEqual(made.number(place=0), (1, 1))

    def test_invalid_places(self):
        for place in [-1, 4, 5, True, False, None, "1", (1, 1), [1], 10 ** 60]:
            code, told = caught(row("1 2 3 4").number, place)
            self.assertEqual(code, "InvalidPlace")
            self.assertIs(told["value"], place)

    def test_equality(self):
        self.assertTrue(row("1 2 3") == row("1 2 3"))
        self.assertFalse(row("1 2 3") != row("1 2 3"))
        for other in (row("1 2 4"), row("1 2 3 0"), step("1 2 3"), step("2 3"), numbers_of("1 2 3"), "1", None, 3):
            self.assertFalse(row("1 2 3") == other)
            self.assertTrue(row("1 2 3") != other)
            self.assertFalse(other == row("1 2 3"))

    def test_texts(self):
        for numbers, text in (
            ("0 0 0", "0 to 2"), ("1 1 0 0 0", "1 + x to 4"), ("-1 0 0", "-1 to 2"), ("-3/2 0 1", "-3/2 + x^2 to 2"),
            ("4 -1 0 1/2", "4 - x + 1/2*x^3 to 3"), ("0 -1 -1 -2/3", "-x - x^2 - 2/3*x^3 to 3"),
            ("0 0 -5/7 0", "-5/7*x^2 to 3"), ("0 2 0", "2*x to 2"), ("0 1/2 3", "1/2*x + 3*x^2 to 2"),
            ("1 " + "0 " * 23 + "-1", "1 - x^24 to 24"),
        ):
            self.assertEqual(row(numbers).text(), text)
            self.assertEqual(str(row(numbers)), text)
            self.assertEqual(repr(row(numbers)), f"Row({text})")
        self.assertEqual(repr(row("1 1 0 0 0")), "Row(1 + x to 4)")


class ReckoningTest(unittest.TestCase):
    def test_sums_differences_products(self):
        for one in map(row, ROWS):
            for other in map(row, ROWS):
                a, b = poly(one), poly(other)
                self.assertEqual(one + other, as_row(plus(a, b)))
                self.assertEqual(one - other, as_row(plus(a, b, -1)))
                self.assertEqual(one * other, as_row(times(a, b)))
            self.assertEqual(-one, as_row([-number for number in poly(one)]))

    def test_unlike_orders(self):
        one, other = row("1 2 3"), row("1 2 3 4")
        for act in (lambda: one + other, lambda: one - other, lambda: one * other):
            self.assertEqual(caught(act), ("UnlikeOrders", {"one": 2, "other": 3}))
        for act in (lambda: other + one, lambda: other - one, lambda: other * one):
            self.assertEqual(caught(act), ("UnlikeOrders", {"one": 3, "other": 2}))

    def test_scaled(self):
        for one in map(row, ROWS):
            for t in EXPONENTS:
                self.assertEqual(one.scaled(t), as_row([Fraction(*t) * number for number in poly(one)]))
        self.assertEqual(row("1 2 3").scaled(t=(1, 2)), row("1/2 1 3/2"))
        for value in ANY_VALUES:
            code, told = caught(row("1 2 3").scaled, value)
            self.assertEqual(code, "InvalidNumber")
            self.assertIs(told["value"], value)

    def test_cut(self):
        one = row("1 2 3 4 5")
        self.assertEqual(one.cut(2), row("1 2 3"))
        self.assertEqual(one.cut(order=3), row("1 2 3 4"))
        self.assertEqual(one.cut(4), one)
        self.assertEqual(caught(one.cut, 5), ("OrderTooLow", {"have": 4, "wanted": 5}))
        self.assertEqual(caught(one.cut, 24), ("OrderTooLow", {"have": 4, "wanted": 24}))
        for order in (1, 0, -3, 25, True, None, "3", (3, 1), [3]):
            self.assertEqual(caught(one.cut, order), ("InvalidOrder", {"value": order}))

    def test_behind(self):
        for one in map(row, ROWS):
            for f in map(step, STEPS):
                self.assertEqual(one.behind(f), as_row(put_in(poly(one), poly(f))))
        self.assertEqual(row("1 2 3").behind(step=step("1 1")), row("1 2 5"))
        self.assertEqual(caught(row("1 2 3").behind, step("1 2 3")), ("UnlikeOrders", {"one": 2, "other": 3}))

    def test_behind_at_the_order_24(self):
        one = Row(pairs(*range(25)))
        f = Step(pairs(*[Fraction(k - 9, k) for k in range(1, 25)]))
        self.assertEqual(one.behind(f), as_row(put_in(poly(one), poly(f))))

    def test_cutting_goes_along(self):
        for one in map(row, ROWS):
            for other in map(row, ROWS):
                self.assertEqual((one * other).cut(2), one.cut(2) * other.cut(2))
            for f in map(step, STEPS):
                self.assertEqual(one.behind(f).cut(3), one.cut(3).behind(f.cut(3)))

    def test_nothing_changes(self):
        one, other = row("1 2 3"), row("1 -1 1/2")
        before = (one.numbers(), other.numbers())
        for made in (one + other, one - other, one * other, -one, one.scaled((1, 2)), one.cut(2), reciprocal(one),
                     row_power(one, (1, 2)), row_log(one), one.behind(step("1 1"))):
            made.numbers().clear()
        caught(one.scaled, 3)
        self.assertEqual((one.numbers(), other.numbers()), before)


class ReciprocalTest(unittest.TestCase):
    def test_reciprocals(self):
        for text in ("1 0 0 0 0", "1 1 0 0 0", "-2/3 0 0 1 7/5", "5 4 3 2 1", "1/2 -1 0 0 3"):
            one = row(text)
            self.assertEqual(one * reciprocal(one), Row.constant((1, 1), 4))
            self.assertEqual(reciprocal(row=reciprocal(one)), one)
        self.assertEqual(reciprocal(row("1 -1 0 0 0")), row("1 1 1 1 1"))
        self.assertEqual(reciprocal(row("2 1 0")), row("1/2 -1/4 1/8"))

    def test_order_24(self):
        one = Row(pairs(*[Fraction(7 - k, k + 3) for k in range(25)]))
        self.assertEqual(one * reciprocal(one), Row.constant((1, 1), 24))

    def test_divided_by_zero(self):
        for text in ("0 0 0", "0 1 0", "0 0 0 0 5"):
            self.assertEqual(caught(reciprocal, row(text)), ("DividedByZero", {}))


class PowerTest(unittest.TestCase):
    def test_against_the_binomial_sum(self):
        for one in map(row, UNIT_ROWS):
            for t in EXPONENTS:
                self.assertEqual(row_power(one, t), as_row(by_binomials(poly(one), t)))

    def test_powers_add_up(self):
        for one in map(row, UNIT_ROWS):
            for s in EXPONENTS:
                for t in EXPONENTS:
                    self.assertEqual(row_power(one, s) * row_power(one, t),
                                     row_power(one, pair(Fraction(*s) + Fraction(*t))))

    def test_known_powers(self):
        self.assertEqual(row_power(row("1 1 0 0 0"), (1, 2)), row("1 1/2 -1/8 1/16 -5/128"))
        self.assertEqual(row_power(row("1 2 3"), (-1, 1)), reciprocal(row("1 2 3")))
        self.assertEqual(row_power(row("1 2 3"), (0, 1)), Row.constant((1, 1), 2))
        self.assertEqual(row_power(t=(2, 1), row=row("1 2 3")), row("1 4 10"))

    def test_order_24(self):
        one = Row(pairs(1, *[Fraction(k, 25 - k) for k in range(1, 25)]))
        third = row_power(one, (1, 3))
        self.assertEqual(third * third * third, one)

    def test_errors_in_order(self):
        for text in ("0 1 1", "2 0 0", "-1 0 0", "1/2 1 1"):
            first = numbers_of(text)[0]
            self.assertEqual(caught(row_power, row(text), (1, 2)), ("NotOne", {"first": first}))
            self.assertEqual(caught(row_power, row(text), None), ("NotOne", {"first": first}))
            self.assertEqual(caught(row_log, row(text)), ("NotOne", {"first": first}))
        for value in ANY_VALUES:
            self.assertEqual(caught(row_power, row("1 2 3"), value), ("InvalidNumber", {"value": value}))


class LogTest(unittest.TestCase):
    def test_slope_of_the_log(self):
        for one in map(row, UNIT_ROWS):
            told = row_log(one)
            self.assertEqual(told.number(0), (0, 1))
            # The slope of log u is u'/u, seen below the order.
            wanted = times(slope_of(poly(one)), poly(reciprocal(one)))
            self.assertEqual(slope_of(poly(told))[:-1], wanted[:-1])

    def test_known_logs(self):
        self.assertEqual(row_log(row("1 1 0 0 0")), row("0 1 -1/2 1/3 -1/4"))
        self.assertEqual(row_log(row=row("1 0 0")), row("0 0 0"))

    def test_logs_of_products_and_powers(self):
        for one in map(row, UNIT_ROWS):
            for other in map(row, UNIT_ROWS):
                self.assertEqual(row_log(one * other), row_log(one) + row_log(other))
            for t in EXPONENTS:
                self.assertEqual(row_log(row_power(one, t)), row_log(one).scaled(t))

    def test_order_24(self):
        one = Row(pairs(*[1] * 25))
        self.assertEqual(fractions_of(row_log(one).numbers()), [0] + [Fraction(1, k) for k in range(1, 25)])


class DefinedHereTest(unittest.TestCase):
    def test_names(self):
        for name in ("Row", "reciprocal", "row_power", "row_log"):
            self.assertEqual(getattr(rows, name).__module__, "creepclocks.rows")
        for name in ("numbers", "number", "__add__", "__sub__", "__mul__", "__neg__", "scaled", "cut", "behind",
                     "text", "__str__", "__eq__", "__len__", "__repr__", "constant"):
            self.assertIn(name, vars(Row))


if __name__ == "__main__":
    unittest.main()
