import unittest
from fractions import Fraction

from creepclocks import drifts
from creepclocks.drifts import (
    Drift, drift_of, flow_of, flow_polynomials, joined, renamed_drift, time_between,
)
from creepclocks.steps import Step
from tests.helper import (
    ANY_VALUES, as_drift, as_row, as_step, caught, drift, numbers_of, pair, pairs, plus, poly, put_in, row, slope_of,
    step, times, unit, way_back,
)

DRIFTS = ["0 0 0 0", "1 0 0 0", "1 -1 3/2 -8/3", "0 -1/2 0 3", "0 0 0 5", "-2/7 1 1 1", "0 0 1 0"]
CREEPS = ["1 1 0 0 0", "1 -3/2 0 1 0", "1 0 -1/2 3 1", "1 0 0 0 5/7", "1 0 0 2 1"]
SLOW = ["1 0 0 0 0"] + CREEPS
TURNABLE = SLOW + ["-1 1 0 2 0", "2 0 1/2 0 -1", "-5/3 0 0 0 0"]
EXPONENTS = [pair(text) for text in ("0", "1", "-1", "3", "-2", "1/2", "-3/2", "7/5", "100")]


def moved(field, numbers):
    return times(field, slope_of(numbers))


def flow(field, t):
    """The sum of the document for a flow, over plain polys."""
    part = unit(len(field) - 1, 1)
    found, factor = list(part), Fraction(1)
    for j in range(1, len(field)):
        part = moved(field, part)
        factor = factor * Fraction(*t) / j
        found = plus(found, part, factor)
    return found


class MakingTest(unittest.TestCase):
    def test_orders(self):
        for order in (2, 3, 24):
            made = Drift(pairs(*range(order - 1)))
            self.assertEqual(made.order, order)
            self.assertEqual(len(made), order - 1)
            self.assertEqual(made.numbers(), pairs(*range(order - 1)))

    def test_invalid_orders(self):
        for many in (0, 24, 25, 100):
            self.assertEqual(caught(Drift, [(1, 1)] * many), ("InvalidOrder", {"value": many + 1}))
            self.assertEqual(caught(Drift, tuple([None] * many)), ("InvalidOrder", {"value": many + 1}))

    def test_no_list(self):
        for value in ANY_VALUES:
            if not isinstance(value, (list, tuple)):
                self.assertEqual(caught(Drift, value), ("InvalidFraction", {"at": -1}))

    def test_first_wrong_item(self):
        for wrong in ANY_VALUES:
            for at in range(3):
                numbers = pairs(1, 2, 3)
                numbers[at] = wrong
                self.assertEqual(caught(Drift, numbers), ("InvalidFraction", {"at": at}))
                self.assertEqual(caught(Drift, numbers[:at + 1] + [None] * (2 - at)), ("InvalidFraction", {"at": at}))

    def test_values(self):
        for text, flat, strength in (("0", None, None), ("0 0 0", None, None), ("3", 1, (3, 1)),
                                     ("0 -1/2 4", 2, (-1, 2)), ("0 0 7", 3, (7, 1)), ("-1 1 1", 1, (-1, 1))):
            made = drift(text)
            self.assertEqual((made.flat, made.strength), (flat, strength))

    def test_tuples_and_names(self):
        self.assertEqual(Drift(tuple(numbers_of("1 2"))), drift("1 2"))
        self.assertEqual(Drift(numbers=numbers_of("1 2")), drift("1 2"))

    def test_lists_are_copied(self):
        given = numbers_of("0 2 3")
        made = Drift(given)
        given[0] = (9, 1)
        given.append((9, 1))
        made.numbers().clear()
        self.assertEqual(made.numbers(), numbers_of("0 2 3"))
        self.assertEqual((made.order, made.flat, len(made)), (4, 2, 3))

    def test_number(self):
        made = drift("5 6 7")
        self.assertEqual([made.number(place) for place in (2, 3, 4)], numbers_of("5 6 7"))
        self.assertEqual(made.number(place=2), (5, 1))
        for place in (0, 1, 5, -1, True, False, None, "2", (2, 1), [2], 10 ** 60):
            code, told = caught(made.number, place)
            self.assertEqual(code, "InvalidPlace")
            self.assertIs(told["value"], place)

    def test_equality(self):
        self.assertTrue(drift("1 2 3") == drift("1 2 3"))
        self.assertFalse(drift("1 2 3") != drift("1 2 3"))
        for other in (drift("1 2 4"), drift("1 2 3 0"), step("1 2 3"), row("1 2 3"), numbers_of("1 2 3"), None, 3):
            self.assertFalse(drift("1 2 3") == other)
            self.assertFalse(other == drift("1 2 3"))

    def test_texts(self):
        for numbers, text in (("0", "0 to 2"), ("1 0 0 0 0", "x^2 to 6"), ("-1 2 -1/2", "-x^2 + 2*x^3 - 1/2*x^4 to 4"),
                              ("0 -3/2", "-3/2*x^3 to 3"), ("0 " * 22 + "1", "x^24 to 24")):
            self.assertEqual(drift(numbers).text(), text)
            self.assertEqual(str(drift(numbers)), text)
            self.assertEqual(repr(drift(numbers)), f"Drift({text})")
        self.assertEqual(repr(drift("1 0 0 0 0")), "Drift(x^2 to 6)")


class ReckoningTest(unittest.TestCase):
    def test_sums_and_brackets(self):
        for one in map(drift, DRIFTS):
            for other in map(drift, DRIFTS):
                v, w = poly(one), poly(other)
                self.assertEqual(one + other, as_drift(plus(v, w)))
                self.assertEqual(one - other, as_drift(plus(v, w, -1)))
                self.assertEqual(one ^ other, as_drift(plus(times(v, slope_of(w)), times(w, slope_of(v)), -1)))
                self.assertEqual(one ^ other, -(other ^ one))
            self.assertEqual(-one, as_drift([-number for number in poly(one)]))

    def test_bracket_of_two_places(self):
        self.assertEqual(drift("1 0 0 0") ^ drift("0 1 0 0"), drift("0 0 1 0"))
        self.assertEqual(drift("2 0 0 0") ^ drift("0 0 3 0"), drift("0 0 0 12"))

    def test_bracket_by_moving(self):
        # What the bracket moves is the difference of moving with the two, the one behind the other.
        for one in map(drift, DRIFTS):
            for other in map(drift, DRIFTS):
                for u in (row("1 2 3 4 5 6"), row("0 1 0 -1 0 1/2")):
                    wanted = one.moved(other.moved(u)) - other.moved(one.moved(u))
                    self.assertEqual((one ^ other).moved(u), wanted)

    def test_unlike_orders(self):
        one, other = drift("1"), drift("1 1")
        for act in (lambda: one + other, lambda: one - other, lambda: one ^ other):
            self.assertEqual(caught(act), ("UnlikeOrders", {"one": 2, "other": 3}))
        for act in (lambda: other + one, lambda: other - one, lambda: other ^ one):
            self.assertEqual(caught(act), ("UnlikeOrders", {"one": 3, "other": 2}))

    def test_scaled(self):
        for one in map(drift, DRIFTS):
            for t in EXPONENTS:
                self.assertEqual(one.scaled(t), as_drift([Fraction(*t) * number for number in poly(one)]))
        self.assertEqual(drift("1 2").scaled(t=(1, 2)), drift("1/2 1"))
        for value in ANY_VALUES:
            self.assertEqual(caught(drift("1").scaled, value), ("InvalidNumber", {"value": value}))

    def test_moved(self):
        for one in map(drift, DRIFTS):
            for text in ("1 0 0 0 0 0", "0 1 0 0 0 0", "2 1/2 -3 0 1 7", "0 0 0 0 1 1"):
                self.assertEqual(one.moved(row(text)), as_row(moved(poly(one), poly(row(text)))))
            self.assertEqual(one.moved(row=row("0 1 0 0 0 0")), row("0 0 " + one_text(one)))
        self.assertEqual(caught(drift("1").moved, row("1 1 1 1")), ("UnlikeOrders", {"one": 2, "other": 3}))


def one_text(made):
    return " ".join(f"{p}/{q}" for p, q in made.numbers())


class DriftOfTest(unittest.TestCase):
    def test_there_and_back(self):
        for f in map(step, SLOW):
            self.assertEqual(flow_of(drift_of(f)), f)
        for v in map(drift, DRIFTS):
            self.assertEqual(drift_of(flow_of(v)), v)
        self.assertEqual(drift_of(step=Step.still(24)), Drift([(0, 1)] * 23))
        self.assertEqual(flow_of(Drift([(0, 1)] * 23)), Step.still(24))

    def test_begins_with_the_same_number(self):
        for f in map(step, CREEPS):
            self.assertEqual((drift_of(f).flat, drift_of(f).strength), (f.flat, f.strength))

    def test_moves_along_the_step(self):
        # The drift v of f has v(f(x)) = f'(x) v(x).
        for f in map(step, SLOW):
            v = poly(drift_of(f))
            self.assertEqual(put_in(v, poly(f)), times(slope_of(poly(f)), v))

    def test_order_24(self):
        f = Step(pairs(1, *[Fraction(k, 25 - k) for k in range(1, 24)]))
        v = drift_of(f)
        self.assertEqual(flow_of(v), f)
        self.assertEqual(put_in(poly(v), poly(f)), times(slope_of(poly(f)), poly(v)))

    def test_examples_of_the_document(self):
        self.assertEqual(str(drift_of(step("1 1 0 0 0 0"))), "x^2 - x^3 + 3/2*x^4 - 8/3*x^5 + 31/6*x^6 to 6")

    def test_not_slow(self):
        for text in ("0 0 0", "0 1 2", "-1 1 0", "2 0 0", "1/2 1 1"):
            self.assertEqual(caught(drift_of, step(text)), ("NotSlow", {"first": numbers_of(text)[0]}))


class FlowTest(unittest.TestCase):
    def test_against_the_sum(self):
        for v in map(drift, DRIFTS):
            for t in EXPONENTS:
                self.assertEqual(flow_of(v, t), as_step(flow(poly(v), t)))
                self.assertEqual(flow_of(v, t), flow_of(v.scaled(t)))
            self.assertEqual(flow_of(v), flow_of(drift=v, t=(1, 1)))

    def test_flows_add_up(self):
        for v in map(drift, DRIFTS):
            for s in EXPONENTS:
                for t in EXPONENTS:
                    both = pair(Fraction(*s) + Fraction(*t))
                    self.assertEqual(flow_of(v, s) * flow_of(v, t), flow_of(v, both))

    def test_integers_are_times(self):
        for f in map(step, SLOW):
            for n in (-64, -5, -1, 0, 1, 2, 7, 64):
                self.assertEqual(flow_of(drift_of(f), (n, 1)), f.power(n))

    def test_powers_are_flows(self):
        for f in map(step, SLOW):
            for t in EXPONENTS:
                self.assertEqual(flow_of(drift_of(f), t), f.power(t))

    def test_rows_behind_a_flow(self):
        # [9]: u behind v^t is u + t L(u) + t^2 L(L(u))/2! + ..
        u = row("3 1 -1/2 0 2 1")
        for v in map(drift, DRIFTS):
            for t in EXPONENTS:
                part, found, factor = u, u, Fraction(1)
                for j in range(1, 6):
                    part = v.moved(part)
                    factor = factor * Fraction(*t) / j
                    found = found + part.scaled(pair(factor))
                self.assertEqual(u.behind(flow_of(v, t)), found)

    def test_invalid_number(self):
        for value in ANY_VALUES:
            code, told = caught(flow_of, drift("1 0"), value)
            self.assertEqual(code, "InvalidNumber")
            self.assertIs(told["value"], value)


class PolynomialsTest(unittest.TestCase):
    def value(self, polynomial, t):
        return sum((Fraction(*number) * t ** i for i, number in enumerate(polynomial)), Fraction(0))

    def test_values(self):
        for v in map(drift, DRIFTS):
            found = flow_polynomials(v)
            for t in EXPONENTS:
                self.assertEqual(pairs(*[self.value(part, Fraction(*t)) for part in found]), flow_of(v, t).numbers())

    def test_no_zeros_at_the_end_and_degrees(self):
        for v in map(drift, DRIFTS):
            found = flow_polynomials(v)
            self.assertEqual(len(found), v.order)
            self.assertEqual(found[0], [(1, 1)])
            for place, part in enumerate(found, 1):
                self.assertIsInstance(part, list)
                self.assertTrue(part == [] or part[-1] != (0, 1))
                if v.flat is not None:
                    self.assertLessEqual(len(part), (place - 1) // v.flat + 1)

    def test_known(self):
        self.assertEqual(flow_polynomials(drift=drift("0 0")), [[(1, 1)], [], []])
        # The flow of x^2 is x/(1 - t x).
        zeros = [(0, 1)] * 23
        self.assertEqual(flow_polynomials(Drift([(1, 1)] + zeros[1:])), [zeros[:j] + [(1, 1)] for j in range(24)])
        self.assertEqual(flow_polynomials(drift("0 3")), [[(1, 1)], [], [(0, 1), (3, 1)]])

    def test_returned_lists_are_new(self):
        found = flow_polynomials(drift("1 0"))
        found[1].clear()
        found.clear()
        self.assertEqual(flow_polynomials(drift("1 0")), [[(1, 1)], [(0, 1), (1, 1)], [(0, 1), (0, 1), (1, 1)]])


class TimeBetweenTest(unittest.TestCase):
    def test_powers(self):
        for f in map(step, CREEPS):
            for t in EXPONENTS:
                self.assertEqual(time_between(f, f.power(t)), t)
            self.assertEqual(time_between(one=f, other=Step.still(5)), (0, 1))
            self.assertEqual(time_between(f, ~f), (-1, 1))
        f = Step(pairs(1, *[Fraction(1, k) for k in range(1, 24)]))
        self.assertEqual(time_between(f.power((2, 3)), f), (3, 2))

    def test_first_place_that_differs(self):
        for f in map(step, CREEPS):
            for t in EXPONENTS:
                right = f.power(t).numbers()
                for place in range(f.flat + 2, 6):
                    numbers = list(right)
                    numbers[place - 1] = pair(Fraction(*numbers[place - 1]) + 1)
                    numbers[4] = pair(Fraction(*numbers[4]) + 1)
                    self.assertEqual(caught(time_between, f, Step(numbers)), ("NotAFlow", {"place": place}))

    def test_lower_flat(self):
        self.assertEqual(caught(time_between, step("1 0 1 0"), step("1 5 0 0")), ("NotAFlow", {"place": 2}))
        self.assertEqual(caught(time_between, step("1 0 0 2"), step("1 0 3 2")), ("NotAFlow", {"place": 3}))

    def test_errors_in_order(self):
        self.assertEqual(caught(time_between, step("2 1"), step("2 1 1")), ("UnlikeOrders", {"one": 2, "other": 3}))
        self.assertEqual(caught(time_between, step("2 1"), step("3 1")), ("NotSlow", {"first": (2, 1)}))
        self.assertEqual(caught(time_between, step("1 0"), step("3 1")), ("NotSlow", {"first": (3, 1)}))
        self.assertEqual(caught(time_between, step("1 1"), step("0 1")), ("NotSlow", {"first": (0, 1)}))
        self.assertEqual(caught(time_between, step("1 0 0"), step("1 1 0")), ("IsStill", {"have": 3}))
        self.assertEqual(caught(time_between, step("1 0 0"), step("1 0 0")), ("IsStill", {"have": 3}))


class RenamedDriftTest(unittest.TestCase):
    def test_against_renamed_steps(self):
        for v in map(drift, DRIFTS):
            for h in map(step, TURNABLE):
                made = renamed_drift(v, h)
                self.assertEqual(flow_of(made), flow_of(v).renamed(h))
                wanted = put_in(times(slope_of(poly(h)), poly(v)), way_back(poly(h)))
                self.assertEqual(made, as_drift(wanted))

    def test_order_24(self):
        v = Drift(pairs(*[Fraction(1, k) for k in range(1, 24)]))
        h = Step(pairs(-2, *range(23)))
        self.assertEqual(flow_of(renamed_drift(v, h)), flow_of(v).renamed(h))

    def test_errors(self):
        self.assertEqual(caught(renamed_drift, drift("1"), step("0 1 1")), ("UnlikeOrders", {"one": 2, "other": 3}))
        self.assertEqual(caught(renamed_drift, drift("1 1"), step("0 1 1")), ("CantTurn", {}))
        self.assertEqual(caught(renamed_drift, drift("0 0"), step("0 0 0")), ("CantTurn", {}))

    def test_by_name(self):
        self.assertEqual(renamed_drift(step=step("2 0"), drift=drift("1")), drift("1/2"))


class JoinedTest(unittest.TestCase):
    def test_against_steps_behind_one_another(self):
        for v in map(drift, DRIFTS):
            self.assertEqual(joined(v), v)
            self.assertEqual(joined(first=v), v)
            for w in map(drift, DRIFTS):
                made = joined(v, w)
                self.assertEqual(flow_of(made), as_step(put_in(flow(poly(v), (1, 1)), flow(poly(w), (1, 1)))))
                self.assertEqual(joined(v, w, v), drift_of(flow_of(v) * flow_of(w) * flow_of(v)))

    def test_beginning(self):
        # [11]: it begins v + w - (v ^ w)/2; what is missing has three drifts in it, with places from 5 on.
        for v in map(drift, DRIFTS):
            for w in map(drift, DRIFTS):
                wanted = v + w - (v ^ w).scaled((1, 2))
                self.assertEqual(joined(v, w).numbers()[:3], wanted.numbers()[:3])

    def test_the_second_terms(self):
        # The brackets of three drifts that come next: (v ^ (v ^ w))/12 - (w ^ (v ^ w))/12.
        for v in map(drift, DRIFTS):
            for w in map(drift, DRIFTS):
                both = v ^ w
                wanted = v + w - both.scaled((1, 2)) + (v ^ both).scaled((1, 12)) - (w ^ both).scaled((1, 12))
                self.assertEqual(joined(v, w).numbers()[:4], wanted.numbers()[:4])

    def test_same_drift(self):
        for v in map(drift, DRIFTS):
            self.assertEqual(joined(v, v), v.scaled((2, 1)))
            self.assertEqual(joined(v, -v), drift("0 0 0 0"))

    def test_unlike_orders(self):
        one, two, three = drift("1"), drift("1 1"), drift("1 1 1")
        self.assertEqual(caught(joined, one, two), ("UnlikeOrders", {"one": 2, "other": 3}))
        self.assertEqual(caught(joined, one, one, three, two), ("UnlikeOrders", {"one": 2, "other": 4}))
        self.assertEqual(caught(joined, three, three, two, one), ("UnlikeOrders", {"one": 4, "other": 3}))


class UnchangedTest(unittest.TestCase):
    def test_nothing_changes(self):
        v, w, h = drift("1 2 3"), drift("0 1 -1"), step("2 1 0 1")
        before = (repr(v), repr(w), repr(h))
        for made in (v + w, v - w, v ^ w, -v, v.scaled((1, 2)), flow_of(v), joined(v, w), renamed_drift(v, h)):
            made.numbers().clear()
        flow_polynomials(v)[0].clear()
        caught(flow_of, v, 2)
        caught(time_between, h, h)
        self.assertEqual((repr(v), repr(w), repr(h)), before)


class DefinedHereTest(unittest.TestCase):
    def test_names(self):
        for name in ("Drift", "drift_of", "flow_of", "flow_polynomials", "time_between", "renamed_drift", "joined"):
            self.assertEqual(getattr(drifts, name).__module__, "creepclocks.drifts")
        for name in ("numbers", "number", "__add__", "__sub__", "__xor__", "__neg__", "scaled", "moved", "text",
                     "__str__", "__eq__", "__len__", "__repr__"):
            self.assertIn(name, vars(Drift))


if __name__ == "__main__":
    unittest.main()
