import types
import unittest
from fractions import Fraction

from creepclocks import steps
from creepclocks.rows import Row
from creepclocks.steps import Step, exchange, first_difference, orbit, trade
from tests.helper import (
    ANY_VALUES, as_step, caught, done_times, numbers_of, pair, pairs, plus, poly, put_in, row, step, unit, way_back,
)

NOTHING = "0 0 0 0 0"
CRUSHES = ["0 0 2 1 0", "0 -1/3 0 0 1", "0 0 0 0 7"]
STILL = "1 0 0 0 0"
CREEPS = ["1 1 0 0 0", "1 0 -1/2 3 1", "1 0 0 0 5/7"]
FLIPS = ["-1 0 0 0 0", "-1 1 -1 2 -4", "-1 0 0 2/3 0"]
STRETCHES = ["2 0 0 0 0", "-5/3 1 0 1/2 -2", "1/2 0 0 0 1"]
SLOW = [STILL] + CREEPS
TURNABLE = SLOW + FLIPS + STRETCHES
EVERY = [NOTHING] + CRUSHES + TURNABLE
EXPONENTS = [pair(text) for text in ("0", "1", "-1", "3", "-2", "1/2", "-3/2", "7/5", "100")]


def by_differences(numbers, t):
    """The t-th power as the sum of binomial(t, j) D^j(x), with D(u) as u behind f minus u."""
    part = unit(len(numbers) - 1, 1)
    found, factor = [Fraction(0)] * len(numbers), Fraction(1)
    for j in range(len(numbers)):
        found = plus(found, part, factor)
        part = plus(put_in(part, numbers), part, -1)
        factor = factor * (t - j) / (j + 1)
    return found


class MakingTest(unittest.TestCase):
    def test_orders(self):
        for order in (2, 3, 24):
            made = Step(pairs(*range(order)))
            self.assertEqual(made.order, order)
            self.assertEqual(len(made), order)
            self.assertEqual(made.numbers(), pairs(*range(order)))

    def test_invalid_orders(self):
        for many in (0, 1, 25, 26, 100):
            self.assertEqual(caught(Step, [(1, 1)] * many), ("InvalidOrder", {"value": many}))
            self.assertEqual(caught(Step, tuple([None] * many)), ("InvalidOrder", {"value": many}))

    def test_no_list(self):
        for value in ANY_VALUES:
            if not isinstance(value, (list, tuple)):
                self.assertEqual(caught(Step, value), ("InvalidFraction", {"at": -1}))

    def test_first_wrong_item(self):
        for wrong in ANY_VALUES:
            for at in range(3):
                numbers = pairs(1, 2, 3)
                numbers[at] = wrong
                self.assertEqual(caught(Step, numbers), ("InvalidFraction", {"at": at}))
                self.assertEqual(caught(Step, numbers[:at + 1] + [None] * (2 - at)), ("InvalidFraction", {"at": at}))

    def test_tuples_and_names(self):
        self.assertEqual(Step(tuple(numbers_of("1 2 3"))), step("1 2 3"))
        self.assertEqual(Step(numbers=numbers_of("1 2 3")), step("1 2 3"))

    def test_lists_are_copied(self):
        given = numbers_of("1 2 3")
        made = Step(given)
        given[1] = (0, 1)
        given.append((9, 1))
        made.numbers().clear()
        self.assertEqual(made.numbers(), numbers_of("1 2 3"))
        self.assertEqual((made.kind, made.order, made.strength), ("creep", 3, (2, 1)))

    def test_values_of_each_kind(self):
        zero, one = (0, 1), (1, 1)
        for text, kind, lead, height, flat, strength in (
            ("0 0", "nothing", zero, None, None, None),
            (NOTHING, "nothing", zero, None, None, None),
            ("0 1", "crush", zero, 2, None, one),
            ("0 0 2 1 0", "crush", zero, 3, None, (2, 1)),
            ("0 0 0 0 -1/7", "crush", zero, 5, None, (-1, 7)),
            ("1 0", "still", one, 1, None, None),
            (STILL, "still", one, 1, None, None),
            ("1 1", "creep", one, 1, 1, one),
            ("1 0 -1/2 3 1", "creep", one, 1, 2, (-1, 2)),
            ("1 0 0 0 5/7", "creep", one, 1, 4, (5, 7)),
            ("1 " + "0 " * 22 + "9", "creep", one, 1, 23, (9, 1)),
            ("-1 0", "flip", (-1, 1), 1, None, None),
            ("-1 1 -1 2 -4", "flip", (-1, 1), 1, None, None),
            ("2 0", "stretch", (2, 1), 1, None, None),
            ("-5/3 1 0 1/2 -2", "stretch", (-5, 3), 1, None, None),
            ("1/2 0 0", "stretch", (1, 2), 1, None, None),
        ):
            made = step(text)
            told = (made.kind, made.lead, made.height, made.flat, made.strength)
            self.assertEqual(told, (kind, lead, height, flat, strength), text)

    def test_still(self):
        self.assertEqual(Step.still(5), step(STILL))
        self.assertEqual(Step.still(order=2), step("1 0"))
        self.assertEqual(len(Step.still(24)), 24)
        for order in (1, 25, 0, True, None, "5", (5, 1), [5]):
            self.assertEqual(caught(Step.still, order), ("InvalidOrder", {"value": order}))

    def test_scaling(self):
        self.assertEqual(Step.scaling((-3, 2), 3), step("-3/2 0 0"))
        self.assertEqual(Step.scaling(order=2, lead=(0, 1)), step("0 0"))
        self.assertEqual(Step.scaling((1, 1), 24), Step.still(24))
        for lead in ANY_VALUES:
            self.assertEqual(caught(Step.scaling, lead, 25), ("InvalidNumber", {"value": lead}))
        for order in (1, 25, True, None, "5"):
            self.assertEqual(caught(Step.scaling, (2, 1), order), ("InvalidOrder", {"value": order}))


class ReadingOffTest(unittest.TestCase):
    def test_number(self):
        made = step("1 2 3")
        self.assertEqual([made.number(place) for place in (1, 2, 3)], numbers_of("1 2 3"))
        self.assertEqual(made.number(place=3), (3, 1))

    def test_invalid_places(self):
        for place in [-1, 0, 4, True, False, None, "1", (1, 1), [1], 10 ** 60]:
            code, told = caught(step("1 2 3").number, place)
            self.assertEqual(code, "InvalidPlace")
            self.assertIs(told["value"], place)

    def test_equality(self):
        self.assertTrue(step("1 2 3") == step("1 2 3"))
        self.assertFalse(step("1 2 3") != step("1 2 3"))
        for other in (step("1 2 4"), step("1 2 3 0"), step("1 2"), row("1 2 3"), row("0 1 2 3"), numbers_of("1 2 3"),
                      "x", None, 3, True):
            self.assertFalse(step("1 2 3") == other)
            self.assertTrue(step("1 2 3") != other)
            self.assertFalse(other == step("1 2 3"))

    def test_texts(self):
        for numbers, text in (
            ("0 0", "0 to 2"), (NOTHING, "0 to 5"), (STILL, "x to 5"), ("1 1 0 0 0 0", "x + x^2 to 6"),
            ("-1 1/2 0 -1 0 0", "-x + 1/2*x^2 - x^4 to 6"), ("-3/2 0 1", "-3/2*x + x^3 to 3"),
            ("4 -1", "4*x - x^2 to 2"), ("0 -1 -1", "-x^2 - x^3 to 3"), ("0 0 -5/7", "-5/7*x^3 to 3"),
            ("1 " + "0 " * 22 + "-1/2", "x - 1/2*x^24 to 24"),
        ):
            self.assertEqual(step(numbers).text(), text)
            self.assertEqual(str(step(numbers)), text)
            self.assertEqual(repr(step(numbers)), f"Step({text})")
        self.assertEqual(repr(step("1 1 0 0 0 0")), "Step(x + x^2 to 6)")

    def test_long_numbers_are_written(self):
        made = Step([(10 ** 3999, 1), (1, 10 ** 3999)])
        zeros = "0" * 3999
        self.assertEqual(str(made), f"1{zeros}*x + 1/1{zeros}*x^2 to 2")
        self.assertEqual(repr(made), f"Step(1{zeros}*x + 1/1{zeros}*x^2 to 2)")

    def test_as_row(self):
        self.assertEqual(step("1 2 3").as_row(), row("0 1 2 3"))
        self.assertIsInstance(step("1 2").as_row(), Row)


class BehindTest(unittest.TestCase):
    def test_against_putting_in(self):
        for one in map(step, EVERY):
            for other in map(step, EVERY):
                self.assertEqual(one * other, as_step(put_in(poly(one), poly(other))))

    def test_g_is_done_first(self):
        self.assertEqual(step("1 1 0") * step("2 0 0"), step("2 4 0"))
        self.assertEqual(step("2 0 0") * step("1 1 0"), step("2 2 0"))

    def test_order_24(self):
        one = Step(pairs(*[Fraction(k - 9, k) for k in range(1, 25)]))
        other = Step(pairs(*[Fraction(5, k + 1) for k in range(24)]))
        self.assertEqual(one * other, as_step(put_in(poly(one), poly(other))))

    def test_row_behind_a_step_is_the_same(self):
        for one in map(step, EVERY):
            for other in map(step, EVERY):
                self.assertEqual(one.as_row().behind(other), (one * other).as_row())

    def test_unlike_orders(self):
        self.assertEqual(caught(lambda: step("1 1") * step("1 1 1")), ("UnlikeOrders", {"one": 2, "other": 3}))
        self.assertEqual(caught(lambda: step("1 1 1") * step("1 1")), ("UnlikeOrders", {"one": 3, "other": 2}))

    def test_cutting_goes_along(self):
        for one in map(step, EVERY):
            for other in map(step, EVERY):
                self.assertEqual((one * other).cut(3), one.cut(3) * other.cut(3))
        for one in map(step, TURNABLE):
            self.assertEqual((~one).cut(2), ~one.cut(2))
            self.assertEqual(one.power(-3).cut(4), one.cut(4).power(-3))


class TurnedBackTest(unittest.TestCase):
    def test_against_trying(self):
        for one in map(step, TURNABLE):
            self.assertEqual(~one, as_step(way_back(poly(one))))
            self.assertEqual(~one * one, Step.still(5))
            self.assertEqual(one * ~one, Step.still(5))
            self.assertEqual(~~one, one)

    def test_known(self):
        self.assertEqual(~step("1 1 0 0 0 0"), step("1 -1 2 -5 14 -42"))
        self.assertEqual(~step("2 0"), step("1/2 0"))

    def test_order_24(self):
        one = Step(pairs(*[Fraction(7, k) for k in range(1, 25)]))
        self.assertEqual(one * ~one, Step.still(24))

    def test_cant_turn(self):
        for one in map(step, [NOTHING] + CRUSHES):
            self.assertEqual(caught(lambda: ~one), ("CantTurn", {}))


class PowerTest(unittest.TestCase):
    def test_integers_one_after_the_other(self):
        for one in map(step, EVERY):
            for n in range(-9, 10):
                if n < 0 and one.lead == (0, 1):
                    self.assertEqual(caught(one.power, n), ("CantTurn", {}))
                else:
                    self.assertEqual(one.power(n), as_step(done_times(poly(one), n)), (one, n))

    def test_all_integers_from_minus_64_to_64(self):
        for text in ("1 1 0 1/2", "-1 1 0 2", "2 1 -1 0", "-1/2 0 0 3"):
            one = step(text)
            up, down = unit(4, 1), unit(4, 1)
            back = way_back(poly(one))
            for n in range(65):
                self.assertEqual(one.power(n), as_step(up))
                self.assertEqual(one.power(-n), as_step(down))
                up, down = put_in(poly(one), up), put_in(back, down)

    def test_crushes_and_nothing(self):
        self.assertEqual(step("0 2 0 0").power(2), step("0 0 0 8"))
        self.assertEqual(step("0 2 0 0").power(64), step("0 0 0 0"))
        for text in [NOTHING] + CRUSHES:
            self.assertEqual(step(text).power(0), Step.still(5))
            self.assertEqual(step(text).power(1), step(text))

    def test_fractions(self):
        for one in map(step, SLOW):
            for t in EXPONENTS:
                self.assertEqual(one.power(t), as_step(by_differences(poly(one), Fraction(*t))), (one, t))

    def test_fractions_with_the_lower_part_1(self):
        for one in map(step, SLOW):
            for n in (-64, -7, -1, 0, 1, 2, 13, 64):
                self.assertEqual(one.power((n, 1)), one.power(n))
            self.assertEqual(one.power((65, 1)), one.power(64) * one)
            self.assertEqual(one.power((-65, 1)) * one.power(64), ~one)

    def test_powers_add_up(self):
        for one in map(step, CREEPS):
            for s in EXPONENTS:
                for t in EXPONENTS:
                    both = pair(Fraction(*s) + Fraction(*t))
                    self.assertEqual(one.power(s) * one.power(t), one.power(both))

    def test_roots_at_the_order_24(self):
        one = Step(pairs(1, *[Fraction(k, 7) for k in range(23)]))
        third = one.power((1, 3))
        self.assertEqual(third.power(3), one)
        self.assertEqual(third * third * third, one)

    def test_example_of_the_document(self):
        half = step("1 1 0 0 0 0").power((1, 2))
        self.assertEqual(str(half), "x + 1/2*x^2 - 1/4*x^3 + 1/4*x^4 - 5/16*x^5 + 27/64*x^6 to 6")

    def test_large_exponents(self):
        t = (10 ** 60 - 1, 10 ** 59)
        self.assertEqual(step("1 1").power(t), Step([(1, 1), t]))

    def test_invalid_powers(self):
        for one in map(step, EVERY):
            for t in (65, -65, 10 ** 60, True, False, None, "1", "1/2", (2, 4), (1, 0), (True, 1), [1, 2], 1.5, one):
                code, told = caught(one.power, t)
                self.assertEqual(code, "InvalidPower")
                self.assertIs(told["value"], t)

    def test_not_slow(self):
        for text in [NOTHING] + CRUSHES + FLIPS + STRETCHES:
            one = step(text)
            for t in ((1, 2), (2, 1), (0, 1), (-1, 1)):
                self.assertEqual(caught(one.power, t), ("NotSlow", {"first": one.lead}))
        self.assertEqual(caught(step(NOTHING).power, (2, 4)), ("InvalidPower", {"value": (2, 4)}))
        self.assertEqual(caught(step(NOTHING).power, -65), ("InvalidPower", {"value": -65}))
        self.assertEqual(caught(step(NOTHING).power, -64), ("CantTurn", {}))

    def test_by_name(self):
        self.assertEqual(step("1 1").power(t=2), step("1 2"))


class RenamedTest(unittest.TestCase):
    def test_against_putting_in(self):
        for one in map(step, EVERY):
            for h in map(step, TURNABLE):
                wanted = put_in(poly(h), put_in(poly(one), way_back(poly(h))))
                self.assertEqual(one.renamed(h), as_step(wanted))

    def test_errors(self):
        self.assertEqual(caught(step("1 1").renamed, step("1 1 1")), ("UnlikeOrders", {"one": 2, "other": 3}))
        self.assertEqual(caught(step("1 1").renamed, step("0 1 1")), ("UnlikeOrders", {"one": 2, "other": 3}))
        for text in [NOTHING] + CRUSHES:
            self.assertEqual(caught(step(STILL).renamed, step(text)), ("CantTurn", {}))
            self.assertEqual(step(text).renamed(step(STILL)), step(text))

    def test_by_name(self):
        self.assertEqual(step("1 1").renamed(step=step("2 0")), step("1 1/2"))


class CutTest(unittest.TestCase):
    def test_cut(self):
        one = step("1 2 3 4")
        self.assertEqual(one.cut(2), step("1 2"))
        self.assertEqual(one.cut(order=3), step("1 2 3"))
        self.assertEqual(one.cut(4), one)
        self.assertEqual(step("1 0 1").cut(2).kind, "still")

    def test_errors(self):
        one = step("1 2 3 4")
        for order in (1, 0, -1, 25, True, None, "3", (3, 1), [3]):
            self.assertEqual(caught(one.cut, order), ("InvalidOrder", {"value": order}))
        for order in (5, 24):
            self.assertEqual(caught(one.cut, order), ("OrderTooLow", {"have": 4, "wanted": order}))


class GoneOnTest(unittest.TestCase):
    def test_goings_on(self):
        one = step("1 2")
        self.assertEqual(one.gone_on(numbers_of("3 1/2")), step("1 2 3 1/2"))
        self.assertEqual(one.gone_on(numbers=tuple(numbers_of("3"))), step("1 2 3"))
        self.assertIs(one.gone_on([]), one)
        self.assertIs(one.gone_on(()), one)
        self.assertEqual(one.gone_on(numbers_of("0 " * 22)).order, 24)
        self.assertEqual(one.gone_on(numbers_of("3 4")).cut(2), one)
        self.assertEqual(Step.still(24).gone_on([]), Step.still(24))

    def test_errors(self):
        one = step("1 2")
        for value in ANY_VALUES:
            if not isinstance(value, (list, tuple)):
                self.assertEqual(caught(one.gone_on, value), ("InvalidFraction", {"at": -1}))
        self.assertEqual(caught(one.gone_on, [None] * 23), ("InvalidOrder", {"value": 25}))
        self.assertEqual(caught(Step.still(24).gone_on, [None]), ("InvalidOrder", {"value": 25}))
        self.assertEqual(caught(one.gone_on, [None]), ("InvalidFraction", {"at": 0}))
        self.assertEqual(caught(one.gone_on, [(1, 1), (2, 4), None]), ("InvalidFraction", {"at": 1}))
        self.assertEqual(caught(one.gone_on, (1, 2)), ("InvalidFraction", {"at": 0}))
        self.assertEqual(one, step("1 2"))

    def test_lists_are_copied(self):
        further = numbers_of("3 4")
        made = step("1 2").gone_on(further)
        further[0] = (9, 1)
        self.assertEqual(made, step("1 2 3 4"))


class TwoStepsTest(unittest.TestCase):
    def test_first_difference(self):
        for one, other, place in (("1 2 3", "1 2 3", None), ("1 2 3", "0 2 3", 1), ("1 2 3", "1 0 0", 2),
                                  ("1 2 3", "1 2 1/3", 3), ("0 0", "0 0", None)):
            self.assertEqual(first_difference(step(one), step(other)), place)
            self.assertEqual(first_difference(other=step(one), one=step(other)), place)

    def test_trade(self):
        for one in map(step, EVERY):
            for other in map(step, EVERY):
                wanted = put_in(poly(one), poly(other)) == put_in(poly(other), poly(one))
                self.assertIs(trade(one, other), wanted)
            if one.lead != (0, 1):
                self.assertIs(trade(one, one.power(-3)), True)
        self.assertIs(trade(one=step("1 1 0"), other=step("2 0 0")), False)

    def test_exchange(self):
        for one in map(step, TURNABLE):
            for other in map(step, TURNABLE):
                a, b = poly(one), poly(other)
                wanted = put_in(a, put_in(b, put_in(way_back(a), way_back(b))))
                self.assertEqual(exchange(one, other), as_step(wanted))
        self.assertEqual(exchange(one=step("1 1"), other=step("2 0")), step("1 1/2"))

    def test_first_number_of_an_exchange(self):
        # [11]: (i - j) a b stands at i + j + 1, and 0 at 2 to i + j.
        for one, other in (("1 3 0 0 0 0 0", "1 0 5 1 0 2 0"), ("1 0 -2 0 1 0 0", "1 0 0 1/2 0 0 0"),
                           ("1 3 1 1 1 1 1", "1 7 0 0 0 0 1")):
            f, g = step(one), step(other)
            made = exchange(f, g)
            place = f.flat + g.flat + 1
            self.assertEqual(made.numbers()[:place - 1], numbers_of("1 " + "0 " * (place - 2)))
            wanted = (f.flat - g.flat) * Fraction(*f.strength) * Fraction(*g.strength)
            self.assertEqual(made.number(place), pair(wanted))

    def test_unlike_orders(self):
        for act in (first_difference, trade, exchange):
            self.assertEqual(caught(act, step("1 1"), step("1 1 1")), ("UnlikeOrders", {"one": 2, "other": 3}))
            self.assertEqual(caught(act, step("0 1 1"), step("0 0")), ("UnlikeOrders", {"one": 3, "other": 2}))

    def test_cant_turn(self):
        for text in [NOTHING] + CRUSHES:
            self.assertEqual(caught(exchange, step(text), step(STILL)), ("CantTurn", {}))
            self.assertEqual(caught(exchange, step(STILL), step(text)), ("CantTurn", {}))


class OrbitTest(unittest.TestCase):
    def test_items(self):
        for one in map(step, EVERY):
            self.assertEqual(list(orbit(one, 6)), [as_step(done_times(poly(one), n)) for n in range(6)])

    def test_ends(self):
        self.assertEqual(list(orbit(step("1 1"), 0)), [])
        self.assertEqual(list(orbit(step("1 1"), 1)), [step("1 0")])
        self.assertEqual([made.number(2) for made in orbit(step("1 1"), 64)], pairs(*range(64)))
        self.assertEqual(list(orbit(many=2, step=step("0 1"))), [step("1 0"), step("0 1")])

    def test_it_is_a_generator(self):
        made = orbit(step("1 1"), 3)
        self.assertIsInstance(made, types.GeneratorType)
        self.assertEqual(next(made), step("1 0"))

    def test_errors_when_the_first_item_is_requested(self):
        for many in (-1, 65, 10 ** 60, True, False, None, "3", (3, 1), [3]):
            made = orbit(step("1 1"), many)
            code, told = caught(next, made)
            self.assertEqual(code, "InvalidTimes")
            self.assertIs(told["value"], many)


class UnchangedTest(unittest.TestCase):
    def test_nothing_changes(self):
        one, other = step("1 2 3"), step("2 -1 1/2")
        before = (repr(one), repr(other), one.numbers(), other.numbers())
        for made in (one * other, ~one, one.power(3), one.power((1, 2)), one.renamed(other), one.cut(2),
                     one.gone_on([]), exchange(one, other), *orbit(one, 3), one.as_row()):
            made.numbers().clear()
        for act in (lambda: one.power(65), lambda: one.cut(7), lambda: one.number(0), lambda: one * step("1 1")):
            self.assertIsNotNone(caught(act))
        self.assertEqual((repr(one), repr(other), one.numbers(), other.numbers()), before)

    def test_equal_calls_return_equal_results(self):
        one, other = step("1 2 3"), step("2 -1 1/2")
        for act in (lambda: one * other, lambda: one.power((1, 3)), lambda: ~other, lambda: list(orbit(other, 4))):
            self.assertEqual(act(), act())


class DefinedHereTest(unittest.TestCase):
    def test_names(self):
        for name in ("Step", "first_difference", "trade", "exchange", "orbit"):
            self.assertEqual(getattr(steps, name).__module__, "creepclocks.steps")
        for name in ("numbers", "number", "__mul__", "__invert__", "power", "renamed", "cut", "gone_on", "as_row",
                     "text", "__str__", "__eq__", "__len__", "__repr__", "still", "scaling"):
            self.assertIn(name, vars(Step))


if __name__ == "__main__":
    unittest.main()
