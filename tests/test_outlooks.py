import unittest
from fractions import Fraction

from creepclocks import outlooks
from creepclocks.likeness import is_alike, three_numbers, unlike
from creepclocks.outlooks import goings_on, outlook, trade_on, wanted_order
from creepclocks.steps import Step, trade
from tests.helper import caught, numbers_of, pair, pairs, step

NOT_SLOW = ["0 0 0", "0 1 2", "-1 1 0", "2 0 0", "1/2 1 1"]


# Steps that are alike, with the outlook and the wanted order.
ALIKE = [
    ("0 0", "0 0", "open", 3), ("0 0 0 0 0", "0 0 0 0 0", "open", 6),
    ("1 0", "1 0", "open", 3), ("1 0 0 0 0", "1 0 0 0 0", "open", 6),
    ("-1 1", "-1 0", "open", 3), ("-1 1 -1", "-1 0 0", "open", 5), ("-1 0 0 5", "-1 2 -4 0", "open", 5),
    ("-1 2 -4 0 0", "-1 0 0 0 0", "never", None), ("-1 0 0 5 0", "-1 0 0 0 0", "open", 7),
    ("1 1", "1 1", "open", 3), ("1 1", "1 -2/3", "open", 3), ("1 0 1", "1 0 4", "open", 5),
    ("1 0 1 2", "1 0 4 -1", "open", 5), ("1 0 0 2 1", "1 0 0 -16 5", "open", 7),
    ("1 0 0 2 1 1", "1 0 0 2 0 0", "open", 7), ("1 0 0 0 0 3", "1 0 0 0 0 3", "open", 11),
    ("1 1 2", "1 1 2", "sure", None), ("1 1 2", "1 2 8", "sure", None), ("1 0 1 0 2", "1 0 1 0 2", "sure", None),
    ("-1 0 1", "-1 0 4", "open", 5), ("-1 0 -1/2 0", "-1 1 -3/2 2", "open", 5),
    ("-1 0 1 0 0", "-1 0 1 0 0", "sure", None), ("-1 0 1 0 0 0", "-1 0 4 0 0 0", "sure", None),
    ("0 1", "0 5", "sure", None), ("0 1 2 3", "0 -1/3 0 1", "sure", None), ("0 0 1 1", "0 0 4 0", "sure", None),
    ("2 0", "2 1", "sure", None), ("-1/2 3 1 1", "-1/2 0 0 0", "sure", None),
]
UNLIKE = [("0 0", "1 0"), ("1 0", "1 1"), ("0 1", "0 0"), ("2 0", "3 0"), ("-1 0 0", "-1 0 1"), ("0 0 1", "0 0 2"),
          ("1 1 0", "1 1 1"), ("1 0 1", "1 0 2"), ("1 0 0 1", "1 0 1 0"), ("-1 0 0", "1 0 0"), ("1 0 1", "1 0 -1"),
          ("-1 0 1 0 0", "-1 0 1 0 1")]


class OutlookTest(unittest.TestCase):
    def test_alike(self):
        for one, other, wanted, order in ALIKE:
            f, g = step(one), step(other)
            self.assertEqual(outlook(f, g), wanted, (one, other))
            self.assertEqual(outlook(one=g, other=f), wanted, (one, other))
            self.assertEqual(is_alike(f, g), wanted != "never")
            if order is None:
                for act in (wanted_order, goings_on):
                    self.assertEqual(caught(act, f, g), ("NotOpen", {}))
            else:
                self.assertEqual(wanted_order(f, g), order, (one, other))
                self.assertEqual(wanted_order(other=f, one=g), order, (one, other))

    def test_never(self):
        for one, other in UNLIKE:
            f, g = step(one), step(other)
            self.assertIsNotNone(unlike(f, g))
            self.assertEqual((outlook(f, g), outlook(g, f)), ("never", "never"))
            for act in (wanted_order, goings_on):
                self.assertEqual(caught(act, f, g), ("NotOpen", {}))

    def test_renamed(self):
        for one, _, wanted, _ in ALIKE:
            f = step(one)
            h = Step(numbers_of("-1/2 3 1 0 2 1")[:f.order])
            if wanted != "never":
                self.assertEqual(outlook(f, f.renamed(h)) if f.lead != (0, 1) else outlook(f, f), wanted)

    def test_what_behind_the_order_does(self):
        # Where it is sure, no going-on makes the steps unlike.
        for one, other, wanted, _ in ALIKE:
            if wanted == "sure":
                for further in ("1", "-2 0 3", "0 1/2"):
                    f = step(one).gone_on(numbers_of(further))
                    g = step(other).gone_on(pairs(*[5] * len(further.split())))
                    self.assertTrue(is_alike(f, g))

    def test_orders(self):
        for act in (outlook, wanted_order, goings_on, trade_on):
            for one, other in (("0 0", "0 0 0"), ("2 0", "1 1 1"), ("1 1", "1 1 1")):
                self.assertEqual(caught(act, step(one), step(other)), ("UnlikeOrders", {"one": 2, "other": 3}))

    def test_high_orders(self):
        still = Step.still(24)
        self.assertEqual((outlook(still, still), wanted_order(still, still)), ("open", 25))
        f = Step(pairs(*[1] + [0] * 22 + [1]))
        self.assertEqual((outlook(f, f), wanted_order(f, f)), ("open", 47))
        f = Step(pairs(*[1] + [0] * 10 + [1] * 13))
        self.assertEqual(outlook(f, f), "sure")
        turn = Step.scaling((-1, 1), 23)
        self.assertEqual((wanted_order(turn, turn), wanted_order(turn.cut(22), turn.cut(22))), (25, 23))
        self.assertEqual(wanted_order(Step.scaling((-1, 1), 24), Step.scaling((-1, 1), 24)), 25)


class GoingsOnTest(unittest.TestCase):
    def check(self, f, g):
        order = wanted_order(f, g)
        pair_of_pairs = goings_on(f, g)
        self.assertIsInstance(pair_of_pairs, tuple)
        for at, found in enumerate(pair_of_pairs):
            self.assertIsInstance(found, tuple)
            one, other = found
            self.assertEqual((one.order, other.order), (order, order))
            self.assertEqual((one.cut(f.order), other.cut(g.order)), (f, g))
            self.assertIs(is_alike(one, other), at == 0, (f, g))

    def test_both_pairs(self):
        for one, other, wanted, _ in ALIKE:
            if wanted == "open":
                self.check(step(one), step(other))
                self.check(step(other), step(one))

    def test_renamed(self):
        for one, _, wanted, _ in ALIKE:
            f = step(one)
            if wanted == "open":
                h = Step(numbers_of("-3 1/2 1 0 2 1")[:f.order])
                self.check(f, f.renamed(h) if f.lead != (0, 1) else f)

    def test_creeps_and_flips_of_high_flats(self):
        for flat in range(1, 12):
            for order in range(flat + 1, 2 * flat + 1):
                f = Step(pairs(*[1] + [0] * (flat - 1), *[Fraction(k % 3 - 1 or 2, k) for k in range(flat, order)]))
                h = Step(pairs(*[Fraction(2, k) for k in range(1, order + 1)]))
                self.check(f, f.renamed(h))
        for order in (5, 7, 8):
            turn = Step.scaling((-1, 1), order)
            f = turn * Step(pairs(*[1, 0, 0, 0, Fraction(2, 3), 0, -1, 0][:order]))
            h = Step(pairs(*[Fraction(-1, k) for k in range(1, order + 1)]))
            self.assertEqual(three_numbers(f)[0], 4)
            self.check(f.renamed(h), f)
            self.check(f, f.renamed(h))

    def test_by_name(self):
        f, g = step("1 1"), step("1 2")
        self.assertEqual(goings_on(other=g, one=f), goings_on(f, g))

    def test_too_high(self):
        for order in (23, 24):
            turn = Step.scaling((-1, 1), order)
            self.assertEqual(caught(goings_on, turn, turn), ("InvalidOrder", {"value": 25}))
        for f, value in ((Step.still(24), 25), (Step.scaling((0, 1), 24), 25),
                         (Step(pairs(*[1] + [0] * 11 + [1])), 25), (Step(pairs(*[1] + [0] * 22 + [1])), 47)):
            self.assertEqual(caught(goings_on, f, f), ("InvalidOrder", {"value": value}))
        for f in (Step.still(23), Step.scaling((0, 1), 23), Step(pairs(*[1] + [0] * 10 + [1])),
                  Step.scaling((-1, 1), 22), Step.scaling((-1, 1), 21)):
            self.check(f, f)

    def test_the_log_falls(self):
        # [28]: it falls by d/a^2 if the last number grows by d.
        for text in ("1 2 5", "1 0 -1/3 1 2", "1 0 0 4 1 1 1"):
            f = step(text)
            numbers = f.numbers()
            numbers[-1] = pair(Fraction(*numbers[-1]) + 3)
            fall = Fraction(*three_numbers(f)[2]) - Fraction(*three_numbers(Step(numbers))[2])
            self.assertEqual(fall, 3 / Fraction(*f.strength) ** 2)


class TradeOnTest(unittest.TestCase):
    def test_powers(self):
        for text in ("1 1 0 0 0 0", "1 0 1/2 1 0 2", "1 0 0 0 3 1", "1 0 0 0 0 7"):
            f = step(text)
            for t in ((1, 1), (2, 1), (-1, 1), (1, 2), (-7, 3)):
                self.assertIs(trade_on(f, f.power(t)), True)
                self.assertIs(trade_on(one=f.power(t), other=f), True)

    def test_trade_is_not_enough(self):
        # They trade at this order, since their exchange begins behind it.
        for one, other in (("1 0 1 0", "1 0 0 1"), ("1 0 1 0", "1 0 1 1"), ("1 0 0 1 0 0", "1 0 0 0 1 0"),
                           ("1 0 0 1 0 0", "1 0 0 1 0 1")):
            f, g = step(one), step(other)
            self.assertTrue(trade(f, g))
            self.assertIs(trade_on(f, g), False)
            self.assertIs(trade_on(g, f), False)

    def test_others(self):
        for one, other in (("1 1 0", "1 1 1"), ("1 1 0", "1 0 1"), ("1 1 1", "1 2 1")):
            self.assertIs(trade_on(step(one), step(other)), False)

    def test_errors_in_order(self):
        for text in NOT_SLOW:
            wanted = ("NotSlow", {"first": numbers_of(text)[0]})
            for other in ("1 0 0", "1 1 1", "5 0 0"):
                self.assertEqual(caught(trade_on, step(text), step(other)), wanted)
            for one in ("1 0 0", "1 1 1"):
                self.assertEqual(caught(trade_on, step(one), step(text)), wanted)
        for one, other in (("1 0 0", "1 1 1"), ("1 1 1", "1 0 0"), ("1 0 0", "1 0 0")):
            self.assertEqual(caught(trade_on, step(one), step(other)), ("IsStill", {"have": 3}))


class DefinedHereTest(unittest.TestCase):
    def test_names(self):
        for name in ("outlook", "wanted_order", "goings_on", "trade_on"):
            self.assertEqual(getattr(outlooks, name).__module__, "creepclocks.outlooks")


if __name__ == "__main__":
    unittest.main()
