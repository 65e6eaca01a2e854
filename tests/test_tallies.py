import unittest
from fractions import Fraction

from creepclocks import tallies
from creepclocks.steps import Step
from creepclocks.tallies import Tally
from tests.helper import (
    ANY_VALUES, caught, fractions_of, numbers_of, pair, pairs, row, step, tally_put_in,
)

# Pairs of a flat and numbers, all of the order 6.
ORDER_6 = [(1, "-1 1 -1/2 1/3 -13/36"), (1, "0 0 0 0 0"), (1, "3 0 0 2 -5/7"), (1, "0 2 1 0 1"), (2, "1 -1 1/2 3"),
           (2, "0 1 -2 0"), (3, "1 2 3"), (3, "0 0 -1/2"), (4, "5 -1"), (5, "-2/3")]
TURNABLE = ["1 0 0 0 0 0", "1 1 0 0 0 0", "1 0 -1/2 3 1 1", "1 0 0 0 0 2", "-1 0 0 0 0 0", "-1 1 1 0 0 2",
            "2 0 0 0 0 0", "-5/3 1 0 1/2 -2 1", "1/2 3 0 0 0 1"]


def tally(flat, text):
    return Tally(flat, numbers_of(text))


class MakingTest(unittest.TestCase):
    def test_values(self):
        for flat, text, order, last, log in (
            (1, "5", 2, -1, None), (1, "5 6", 3, 0, (6, 1)), (1, "5 6 7", 4, 1, (6, 1)),
            (2, "5", 3, -2, None), (2, "5 6", 4, -1, None), (2, "5 6 0", 5, 0, (0, 1)), (2, "5 6 1/2 8", 6, 1, (1, 2)),
            (3, "1 2 3", 6, -1, None), (3, "1 2 3 4", 7, 0, (4, 1)), (23, "9", 24, -23, None),
            (12, "1 " * 12, 24, -1, None), (11, "1 " * 11 + "3 7", 24, 1, (3, 1)), (1, "2 " * 23, 24, 21, (2, 1)),
        ):
            made = tally(flat, text)
            self.assertEqual((made.flat, made.order, made.last, made.log), (flat, order, last, log))
            self.assertEqual(len(made), order - flat)
            self.assertEqual(made.numbers(), numbers_of(text))

    def test_number(self):
        made = tally(2, "5 6 7 8")
        self.assertEqual([made.number(place) for place in (-2, -1, 0, 1)], numbers_of("5 6 7 8"))
        self.assertEqual(made.number(place=-2), (5, 1))
        self.assertEqual(tally(3, "5").number(-3), (5, 1))

    def test_invalid_places(self):
        for made, places in ((tally(2, "5 6 7 8"), (-3, 2)), (tally(3, "5"), (-4, -2, 0, 1)), (tally(1, "5"), (0,))):
            for place in places + (True, False, None, "0", (0, 1), [0], 10 ** 60, -10 ** 60):
                code, told = caught(made.number, place)
                self.assertEqual(code, "InvalidPlace")
                self.assertIs(told["value"], place)

    def test_invalid_flat(self):
        for flat in ANY_VALUES + [24, 25, -3]:
            if flat != 1 or flat is True:
                for numbers in ([(1, 1)], [], None, [None]):
                    code, told = caught(Tally, flat, numbers)
                    self.assertEqual(code, "InvalidFlat")
                    self.assertIs(told["value"], flat)

    def test_no_list(self):
        for value in ANY_VALUES:
            if not isinstance(value, (list, tuple)):
                self.assertEqual(caught(Tally, 1, value), ("InvalidFraction", {"at": -1}))
                self.assertEqual(caught(Tally, 23, value), ("InvalidFraction", {"at": -1}))

    def test_invalid_orders(self):
        for flat, many in ((1, 0), (1, 24), (2, 0), (2, 23), (23, 0), (23, 2), (12, 13), (5, 100)):
            for numbers in ([(1, 1)] * many, [None] * many, tuple([True] * many)):
                self.assertEqual(caught(Tally, flat, numbers), ("InvalidOrder", {"value": flat + many}))

    def test_first_wrong_item(self):
        for wrong in ANY_VALUES:
            for at in range(3):
                numbers = pairs(1, 2, 3)
                numbers[at] = wrong
                self.assertEqual(caught(Tally, 2, numbers), ("InvalidFraction", {"at": at}))
                self.assertEqual(caught(Tally, 2, numbers[:at + 1] + [None] * (2 - at)),
                                 ("InvalidFraction", {"at": at}))

    def test_tuples_and_names(self):
        self.assertEqual(Tally(2, tuple(numbers_of("1 2"))), tally(2, "1 2"))
        self.assertEqual(Tally(numbers=numbers_of("1 2"), flat=2), tally(2, "1 2"))

    def test_lists_are_copied(self):
        given = numbers_of("1 2 3")
        made = Tally(1, given)
        given[1] = (9, 1)
        given.append((9, 1))
        made.numbers().clear()
        made.numbers()[0] = (9, 1)
        self.assertEqual(made.numbers(), numbers_of("1 2 3"))
        self.assertEqual((made.order, made.last, made.log, len(made)), (4, 1, (2, 1), 3))

    def test_equality(self):
        self.assertTrue(tally(1, "1 2 3") == tally(1, "1 2 3"))
        self.assertFalse(tally(1, "1 2 3") != tally(1, "1 2 3"))
        for other in (tally(1, "1 2 4"), tally(2, "1 2 3"), tally(2, "1 2"), tally(1, "1 2 3 0"), tally(1, "1 2"),
                      row("1 2 3"), step("1 2 3"), numbers_of("1 2 3"), "x", None, 3, True):
            self.assertFalse(tally(1, "1 2 3") == other)
            self.assertTrue(tally(1, "1 2 3") != other)
            self.assertFalse(other == tally(1, "1 2 3"))


class TextTest(unittest.TestCase):
    def test_texts(self):
        for flat, numbers, text in (
            (1, "-1 1 -1/2", "-x^-1 + log(x) - 1/2*x from -1 to 1"),
            (1, "-1 1 -1/2 1/3 -13/36", "-x^-1 + log(x) - 1/2*x + 1/3*x^2 - 13/36*x^3 from -1 to 3"),
            (1, "-1 0 0 0 0", "-x^-1 from -1 to 3"),
            (1, "0 -1", "-log(x) from -1 to 0"),
            (1, "1 -3/2", "x^-1 - 3/2*log(x) from -1 to 0"),
            (1, "0 5 0 -1", "5*log(x) - x^2 from -1 to 2"),
            (1, "0 0 1", "x from -1 to 1"),
            (1, "0 0 -2 1", "-2*x + x^2 from -1 to 2"),
            (1, "0", "0 from -1 to -1"),
            (1, "0 0 0", "0 from -1 to 1"),
            (1, "2/3", "2/3*x^-1 from -1 to -1"),
            (3, "0 1 -1", "x^-2 - x^-1 from -3 to -1"),
            (3, "-5/2 0 7", "-5/2*x^-3 + 7*x^-1 from -3 to -1"),
            (23, "4", "4*x^-23 from -23 to -23"),
            (1, "0 " * 22 + "-1/9", "-1/9*x^21 from -1 to 21"),
        ):
            made = tally(flat, numbers)
            self.assertEqual(made.text(), text)
            self.assertEqual(str(made), text)
            self.assertEqual(repr(made), f"Tally({text})")


class ReckoningTest(unittest.TestCase):
    def test_sums(self):
        for flat, one in ORDER_6:
            for other_flat, other in ORDER_6:
                if flat == other_flat:
                    u, v = tally(flat, one), tally(flat, other)
                    both = list(zip(fractions_of(u.numbers()), fractions_of(v.numbers())))
                    self.assertEqual(u + v, Tally(flat, pairs(*[a + b for a, b in both])))
                    self.assertEqual(u - v, Tally(flat, pairs(*[a - b for a, b in both])))
            self.assertEqual(-tally(flat, one), Tally(flat, pairs(*[-a for a in map(Fraction, one.split())])))

    def test_scaled(self):
        for flat, one in ORDER_6:
            for t in map(pair, ("0", "1", "-1", "2/3", "-7")):
                wanted = pairs(*[Fraction(*t) * a for a in map(Fraction, one.split())])
                self.assertEqual(tally(flat, one).scaled(t), Tally(flat, wanted))
        self.assertEqual(tally(1, "1 2").scaled(t=(1, 2)), tally(1, "1/2 1"))
        for value in ANY_VALUES:
            code, told = caught(tally(1, "1 2").scaled, value)
            self.assertEqual(code, "InvalidNumber")
            self.assertIs(told["value"], value)

    def test_unlike_orders_and_flats(self):
        one, longer, other, both = tally(1, "1 2"), tally(1, "1 2 3"), tally(2, "1"), tally(2, "1 2")
        for act in (lambda u, v: u + v, lambda u, v: u - v):
            self.assertEqual(caught(act, one, longer), ("UnlikeOrders", {"one": 3, "other": 4}))
            self.assertEqual(caught(act, longer, one), ("UnlikeOrders", {"one": 4, "other": 3}))
            self.assertEqual(caught(act, one, other), ("UnlikeFlats", {"one": 1, "other": 2}))
            self.assertEqual(caught(act, other, one), ("UnlikeFlats", {"one": 2, "other": 1}))
            self.assertEqual(caught(act, one, both), ("UnlikeOrders", {"one": 3, "other": 4}))

    def test_unchanged(self):
        u, v, f = tally(1, "1 2 3"), tally(1, "0 1 -1"), step("2 1 0 1")
        before = (repr(u), repr(v), repr(f))
        for made in (u + v, u - v, -u, u.scaled((2, 1)), u.behind(f)):
            made.numbers().clear()
        self.assertEqual((repr(u), repr(v), repr(f)), before)


class BehindTest(unittest.TestCase):
    def check(self, u, f):
        made = u.behind(f)
        there = tally_put_in(u, [Fraction(0)] + fractions_of(f.numbers()))
        wanted = [there[place] for place in range(-u.flat, u.last + 1)]
        if u.log is not None:
            wanted[u.flat] = Fraction(*u.log)
        self.assertEqual(made, Tally(u.flat, pairs(*wanted)))

    def test_steps_of_every_turnable_kind(self):
        for flat, text in ORDER_6:
            for other in TURNABLE:
                self.check(tally(flat, text), step(other))

    def test_edges(self):
        self.check(tally(1, "3"), step("-2/3 5"))
        self.check(tally(1, "3 4"), step("-2/3 5 1"))
        self.check(tally(23, "3"), Step(pairs(*[Fraction(k, 3) for k in range(1, 25)])))
        self.check(Tally(1, pairs(*range(1, 24))), Step(pairs(-2, *[Fraction(1, k) for k in range(1, 24)])))

    def test_known(self):
        # log(2 x (1 + x)) is log(2) + log(x) + x - x^2/2 + .., without the constant.
        self.assertEqual(tally(1, "0 1 0 0").behind(step("2 2 0 0 0")), tally(1, "0 1 1 -1/2"))
        # 1/(x/(1 - x)) is 1/x - 1, without the constant.
        self.assertEqual(tally(1, "1 0 0 0").behind(step("1 1 1 1 1")), tally(1, "1 0 0 0"))
        self.assertEqual(tally(2, "1 0 0").behind(step("1 1 1 1 1")), tally(2, "1 -2 0"))
        self.assertEqual(tally(1, "0 0 1 2").behind(step("3 1 0 0 0")), tally(1, "0 0 3 19"))
        self.assertEqual(tally(1, "6").behind(step("-3 1")), tally(1, "-2"))

    def test_still_and_twice(self):
        for flat, text in ORDER_6:
            u = tally(flat, text)
            self.assertEqual(u.behind(Step.still(6)), u)
            for one in map(step, TURNABLE):
                self.assertEqual(u.behind(one).behind(~one), u)
                for other in map(step, TURNABLE):
                    self.assertEqual(u.behind(one).behind(other), u.behind(one * other))

    def test_errors(self):
        u = tally(1, "1 2 3")
        self.assertEqual(caught(u.behind, step("0 1 1")), ("UnlikeOrders", {"one": 4, "other": 3}))
        self.assertEqual(caught(u.behind, step("2 1 1 0 0")), ("UnlikeOrders", {"one": 4, "other": 5}))
        self.assertEqual(caught(u.behind, step("0 1 1 0")), ("CantTurn", {}))
        self.assertEqual(caught(u.behind, step("0 0 0 0")), ("CantTurn", {}))
        self.assertEqual(u.behind(step=step("1 0 0 0")), u)


class DefinedHereTest(unittest.TestCase):
    def test_names(self):
        self.assertEqual(tallies.Tally.__module__, "creepclocks.tallies")
        for name in ("numbers", "number", "__add__", "__sub__", "__neg__", "scaled", "behind", "text", "__str__",
                     "__eq__", "__len__", "__repr__"):
            self.assertIn(name, vars(Tally))


if __name__ == "__main__":
    unittest.main()
