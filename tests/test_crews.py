import unittest
from fractions import Fraction

from creepclocks import crews
from creepclocks.crews import Barred, Crew, Inside
from creepclocks.drifts import Drift, drift_of, flow_of
from creepclocks.errors import NotInCrew
from creepclocks.papers import Paper
from creepclocks.reading import read_step
from creepclocks.steps import Step
from tests.helper import (
    ANY_VALUES, as_drift, caught, drift, fractions_of, numbers_of, pair, pairs, poly, slope_of, step, times,
)

# Crews of the order 8, with steps that add nothing among them.
GROUPS = [
    [],
    ["1 0 0 0 0 0 0 0"],
    ["1 1 0 0 0 0 0 0"],
    ["1 0 0 0 0 0 0 5"],
    ["1 0 1 0 0 0 0 0", "1 0 0 1 0 0 0 0"],
    ["1 1 0 0 0 0 0 0", "1 1 1 0 0 0 0 0"],
    ["1 0 -1/2 0 0 1 0 0", "1 0 0 0 0 0 0 0", "1 0 0 3 1 0 0 0"],
    ["1 0 0 2 0 0 1 1", "1 0 0 0 0 1/3 0 1", "1 0 0 0 -1 0 0 2", "1 0 0 0 0 0 0 7"],
    ["1 0 2 1 0 0 0 0", "1 0 0 0 1 0 0 1", "1 0 0 0 0 2 1 0"],
    ["1 0 0 0 0 1 0 0", "1 0 0 0 0 2 0 0", "1 0 0 0 0 3 0 1"],
]
OTHERS = ["1 0 0 0 0 0 0 1", "1 1 0 0 0 0 0 0", "1 0 0 1 0 0 0 0", "1 0 1 0 0 0 0 0", "1 0 0 0 1 0 0 0",
          "1 0 0 0 0 1 1 0", "1 0 0 0 0 0 0 0", "1 2 3 4 5 6 7 8", "1 0 5 0 2 0 1/3 0"]
NOT_SLOW = ["0 0 0", "0 1 2", "-1 1 0", "2 0 0", "1/2 1 1"]


def steps_of(texts):
    return [step(text) for text in texts]


def crew_of(texts):
    return Crew(8, *steps_of(texts))


def bracket(v, w):
    """v w' - w v' of two drifts, apart from the package."""
    one, other = poly(v), poly(w)
    return as_drift([a - b for a, b in zip(times(one, slope_of(other)), times(other, slope_of(one)))])


def reduced(lists):
    """The reduced form of lists of Fractions, by ascending fronts."""
    left, found = [list(numbers) for numbers in lists], []
    for at in range(len(lists[0]) if lists else 0):
        own = [numbers for numbers in left if numbers[at] != 0]
        if not own:
            continue
        left.remove(own[0])
        line = [number / own[0][at] for number in own[0]]
        left = [[a - numbers[at] * b for a, b in zip(numbers, line)] for numbers in left]
        found = [[a - numbers[at] * b for a, b in zip(numbers, line)] for numbers in found] + [line]
    return found


def rank(drifts):
    return len(reduced([fractions_of(v.numbers()) for v in drifts]))


def basis_of(drifts):
    return [Drift(pairs(*numbers)) for numbers in reduced([fractions_of(v.numbers()) for v in drifts])]


def whole_span(drifts, order):
    """The basis of the span, by adding the brackets of all pairs as long as this makes it larger."""
    have = basis_of(drifts)
    while True:
        more = basis_of(have + [bracket(v, w) for v in have for w in have])
        if len(more) == len(have):
            return have
        have = more


def added(factors, drifts, order):
    total = [Fraction(0)] * (order - 1)
    for factor, v in zip(fractions_of(factors), drifts):
        total = [a + factor * b for a, b in zip(total, fractions_of(v.numbers()))]
    return Drift(pairs(*total))


class MakersTest(unittest.TestCase):
    def test_by_their_names(self):
        for texts in GROUPS:
            crew = crew_of(texts)
            drifts, makers, names = [drift_of(f) for f in steps_of(texts)], [], []
            for at, v in enumerate(drifts):
                if rank(makers + [v]) > len(makers):
                    makers.append(v)
                    names.append(("step", at))
            p = 1
            while p < len(makers):
                for q in range(p):
                    further = bracket(makers[p], makers[q])
                    if rank(makers + [further]) > len(makers):
                        makers.append(further)
                        names.append(("bracket", p, q))
                p += 1
            self.assertEqual(crew.makers(), makers)
            self.assertEqual(crew.names(), names)
            self.assertEqual((crew.dimension, crew.size, crew.order), (len(makers), len(texts), 8))

    def test_they_span_all(self):
        for texts in GROUPS:
            crew = crew_of(texts)
            self.assertEqual(basis_of(crew.makers()), whole_span([drift_of(f) for f in steps_of(texts)], 8))

    def test_steps_that_add_nothing(self):
        f, g = step("1 0 1 0 0 0 0 0"), step("1 0 0 1 0 0 0 0")
        crew = Crew(8, Step.still(8), f, f.power((2, 3)), Step.still(8), g, f * g)
        self.assertEqual(crew.names()[:2], [("step", 1), ("step", 4)])
        self.assertEqual(crew.makers()[:2], [drift_of(f), drift_of(g)])
        self.assertEqual((crew.size, crew.dimension), (6, Crew(8, f, g).dimension))
        # The drift of f behind g begins with both, but has brackets of them behind.
        self.assertEqual(Crew(8, f, g, f * g).names()[2], ("step", 2))

    def test_none_and_one(self):
        crew = Crew(5)
        self.assertEqual([crew.steps(), crew.makers(), crew.names(), crew.basis(), crew.layers()], [[]] * 5)
        self.assertEqual((crew.size, crew.dimension, repr(crew)), (0, 0, "Crew(0 steps)"))
        self.assertEqual(crew.recipe(Step.still(5)), [])
        crew = Crew(5, step("1 0 2 0 1"))
        self.assertEqual(crew.names(), [("step", 0)])
        self.assertEqual(crew.layers(), [crew.basis()])
        self.assertEqual(repr(crew), "Crew(1 steps)")
        self.assertEqual(Crew(5, Step.still(5)).layers(), [])

    def test_document(self):
        crew = Crew(6, read_step("x + x^3 to 6"), read_step("x + x^4 to 6"))
        self.assertEqual(crew.names(), [("step", 0), ("step", 1), ("bracket", 1, 0)])
        self.assertEqual([str(v) for v in crew.basis()], ["x^3 - 3/2*x^5 to 6", "x^4 to 6", "x^6 to 6"])
        self.assertEqual(crew.recipe(read_step("x + x^6 to 6")), numbers_of("0 0 -1"))

    def test_order_24(self):
        f = Step(pairs(1, 0, 1, *[0] * 21))
        g = Step(pairs(1, 0, 0, 1, *[0] * 20))
        crew = Crew(24, f, g)
        self.assertEqual(crew.dimension, 20)
        self.assertEqual([v.flat + 1 for v in crew.basis()], [3, 4, 6, 8] + list(range(9, 25)))
        self.assertIn(f.power((1, 2)) * g * f.power((-3, 1)), crew)
        self.assertNotIn(Step(pairs(1, *[0] * 3, 1, *[0] * 19)), crew)
        self.assertEqual([len(layer) for layer in crew.layers()], [20, 18, 17, 15, 13, 11, 9, 7, 5, 3, 1])
        one = Crew(24, Step(pairs(1, *[0] * 22, 1)))
        self.assertEqual((one.dimension, one.basis()), (1, [Drift(pairs(*[0] * 22, 1))]))


class BasisTest(unittest.TestCase):
    def test_reduced(self):
        for texts in GROUPS:
            crew = crew_of(texts)
            self.assertEqual(crew.basis(), basis_of(crew.makers()))
            fronts = [v.flat + 1 for v in crew.basis()]
            self.assertEqual(fronts, sorted(set(fronts)))
            for v in crew.basis():
                self.assertEqual([v.number(front) for front in fronts],
                                 [(int(front == v.flat + 1), 1) for front in fronts])

    def test_layers(self):
        for texts in GROUPS:
            crew = crew_of(texts)
            layer, wanted = crew.basis(), []
            while layer:
                wanted.append(layer)
                layer = basis_of([bracket(v, w) for v in crew.basis() for w in layer])
            self.assertEqual(crew.layers(), wanted)


class RecipeTest(unittest.TestCase):
    def test_of_what_is_in_the_crew(self):
        for texts in GROUPS:
            crew = crew_of(texts)
            for at in range(3):
                factors = pairs(*[Fraction(at - n, n + 1) for n in range(crew.dimension)])
                f = flow_of(added(factors, crew.makers(), 8))
                self.assertIn(f, crew)
                self.assertEqual(crew.recipe(f), factors)
                self.assertEqual(crew.recipe(step=f), factors)

    def test_products_of_powers(self):
        for texts in GROUPS:
            crew, f = crew_of(texts), Step.still(8)
            for at, part in enumerate(steps_of(texts)):
                f = f * part.power(pair(Fraction(at + 2, 3))) * steps_of(texts)[0].power((-1, 2))
                self.assertIn(part, crew)
                self.assertIn(f, crew)
                self.assertEqual(added(crew.recipe(f), crew.makers(), 8), drift_of(f))
                self.assertIsNone(Inside(crew, f, crew.recipe(f)).wrong())

    def test_recipe_of_a_maker(self):
        for texts in GROUPS:
            crew = crew_of(texts)
            for at, v in enumerate(crew.makers()):
                self.assertEqual(crew.recipe(flow_of(v)), pairs(*[int(n == at) for n in range(crew.dimension)]))

    def test_errors_in_order(self):
        crew = Crew(3, step("1 0 1"))
        for act in (crew.recipe, crew.bar, crew.enlist):
            self.assertEqual(caught(act, step("2 1")), ("UnlikeOrders", {"one": 3, "other": 2}))
            self.assertEqual(caught(act, step("1 0 0 1")), ("UnlikeOrders", {"one": 3, "other": 4}))
            for text in NOT_SLOW:
                self.assertEqual(caught(act, step(text)), ("NotSlow", {"first": numbers_of(text)[0]}))
        code, told = caught(crew.recipe, step("1 1 0"))
        self.assertEqual(code, "NotInCrew")
        self.assertIsInstance(told["paper"], Barred)
        self.assertEqual((told["paper"].wrong(), told["paper"].place), (None, 2))
        self.assertEqual(caught(crew.bar, step("1 0 5")), ("InCrew", {}))
        self.assertEqual(caught(Crew(3).bar, step("1 0 0")), ("InCrew", {}))
        self.assertEqual(crew.steps(), [step("1 0 1")])


class BarTest(unittest.TestCase):
    def test_by_weighing(self):
        for texts in GROUPS:
            crew = crew_of(texts)
            for f in steps_of(OTHERS):
                inside = rank(crew.makers() + [drift_of(f)]) == crew.dimension
                self.assertEqual(f in crew, inside)
                if inside:
                    self.assertEqual(caught(crew.bar, f), ("InCrew", {}))
                    self.assertIsNone(caught(crew.recipe, f))
                    continue
                paper = crew.bar(f)
                self.assertIsNone(paper.wrong())
                for v in crew.makers():
                    self.assertEqual(self.weighed(paper, v), 0)
                self.assertNotEqual(self.weighed(paper, drift_of(f)), 0)
                self.check_form(crew, f, paper)
                with self.assertRaises(NotInCrew) as held:
                    crew.recipe(f)
                again = held.exception.paper
                self.assertEqual((again.place, again.weights(), again.step), (paper.place, paper.weights(), f))

    def weighed(self, paper, v):
        found = sum(a * b for a, b in zip(fractions_of(paper.weights()), fractions_of(v.numbers())))
        self.assertEqual(paper.barred(v), pair(found))
        return found

    def check_form(self, crew, f, paper):
        left = fractions_of(drift_of(f).numbers())
        for v in crew.basis():
            factor = fractions_of(drift_of(f).numbers())[v.flat - 1]
            left = [a - factor * b for a, b in zip(left, fractions_of(v.numbers()))]
        place = [number != 0 for number in left].index(True) + 2
        wanted = [Fraction(0)] * 7
        wanted[place - 2] = Fraction(1)
        for v in crew.basis():
            wanted[v.flat - 1] = -Fraction(*v.number(place))
        self.assertEqual((paper.place, paper.weights()), (place, pairs(*wanted)))

    def test_document(self):
        crew = Crew(6, read_step("x + x^3 to 6"), read_step("x + x^4 to 6"))
        paper = crew.bar(step=read_step("x + x^5 to 6"))
        self.assertEqual((paper.place, paper.weights()), (5, numbers_of("0 3/2 0 1 0")))


class AskedTest(unittest.TestCase):
    def test_in_for_any_value(self):
        crew = Crew(3, step("1 1 0"))
        for value in ANY_VALUES + [step("2 1 0"), step("0 1 0"), step("1 1"), step("1 1 0 0"), crew, drift("1 0")]:
            self.assertIs(value in crew, False)
        self.assertIs(step("1 1 0") in crew, True)
        self.assertIs(step("1 0 0") in crew, True)
        self.assertIs(step("1 0 1") in crew, False)
        self.assertIs(Step.still(3) in Crew(3), True)

    def test_holds(self):
        made = [crew_of(texts) for texts in GROUPS]
        for one in made:
            for other in made:
                wanted = rank(one.makers() + other.makers()) == one.dimension
                self.assertIs(one.holds(other), wanted)
                self.assertIs(one.holds(crew=other), wanted)
        self.assertEqual(caught(Crew(3).holds, Crew(4)), ("UnlikeOrders", {"one": 3, "other": 4}))

    def test_renamed(self):
        h = step("-2 1 0 1 0 0 3 1")
        for texts in GROUPS:
            crew = crew_of(texts)
            other = crew.renamed(h)
            self.assertEqual(other.steps(), [f.renamed(h) for f in steps_of(texts)])
            self.assertEqual((other.dimension, other.names(), other.order), (crew.dimension, crew.names(), 8))
            self.assertEqual(crew.steps(), steps_of(texts))
        self.assertEqual(crew_of(GROUPS[4]).renamed(step=Step.still(8)).basis(), crew_of(GROUPS[4]).basis())

    def test_renamed_errors(self):
        for crew in (Crew(3), Crew(3, step("1 1 1"))):
            self.assertEqual(caught(crew.renamed, step("0 1 0 1")), ("UnlikeOrders", {"one": 3, "other": 4}))
            self.assertEqual(caught(crew.renamed, step("0 1 0")), ("CantTurn", {}))
            self.assertIsNone(caught(crew.renamed, step("3 1 0")))

    def test_returned_lists_are_new(self):
        crew = crew_of(GROUPS[4])
        for act in (crew.steps, crew.makers, crew.names, crew.basis, crew.layers):
            before = list(act())
            act().clear()
            self.assertEqual(act(), before)
        crew.layers()[0].clear()
        self.assertEqual(crew.layers()[0], crew.basis())
        f = step(GROUPS[4][0])
        crew.recipe(f).clear()
        self.assertEqual(len(crew.recipe(f)), crew.dimension)
        listed = steps_of(GROUPS[4])
        other = Crew(8, *listed)
        listed.clear()
        self.assertEqual(other.size, 2)


class ChangesTest(unittest.TestCase):
    def told(self, crew):
        return [crew.order, crew.size, crew.dimension, crew.steps(), crew.makers(), crew.names(), crew.basis(),
                crew.layers(), repr(crew), [f in crew for f in steps_of(OTHERS)],
                [caught(crew.recipe, f) is None or crew.bar(f).weights() for f in steps_of(OTHERS)]]

    def test_enlist_and_strike(self):
        crew, have = Crew(8), []
        for text in ("1 0 0 0 0 1 0 0", "1 0 1 0 0 0 0 0", "1 0 0 0 0 0 0 0", "1 1 0 0 1 0 0 0"):
            crew.enlist(step=step(text))
            have.append(step(text))
            self.assertEqual(self.told(crew), self.told(Crew(8, *have)))
        for at in (3, 0, 1, 0):
            crew.strike(at)
            have.pop(at)
            self.assertEqual(self.told(crew), self.told(Crew(8, *have)))
        crew.enlist(step("1 0 0 1 0 0 0 0"))
        crew.strike(at=0)
        self.assertEqual(self.told(crew), self.told(Crew(8)))

    def test_return_nothing(self):
        crew = Crew(3)
        self.assertIsNone(crew.enlist(step("1 1 1")))
        self.assertIsNone(crew.strike(0))

    def test_twin(self):
        crew = crew_of(GROUPS[4])
        twin = crew.twin()
        before = self.told(crew)
        self.assertEqual(self.told(twin), before)
        twin.strike(0)
        self.assertEqual(self.told(crew), before)
        self.assertEqual(self.told(twin), self.told(crew_of(GROUPS[4][1:])))
        crew.enlist(step("1 1 0 0 0 0 0 0"))
        self.assertEqual(self.told(twin), self.told(crew_of(GROUPS[4][1:])))
        self.assertEqual(crew.size, 3)

    def test_unknown_steps(self):
        crew = Crew(3, step("1 1 1"), step("1 0 1"))
        for value in ANY_VALUES + [2, -2, "0", 1.5]:
            if value in (0, 1) and not isinstance(value, bool):
                continue
            code, told = caught(crew.strike, value)
            self.assertEqual(code, "UnknownStep")
            self.assertIs(told["at"], value)
        self.assertEqual(crew.size, 2)
        self.assertEqual(caught(Crew(3).strike, 0), ("UnknownStep", {"at": 0}))

    def test_too_many(self):
        many = [step("1 1 1")] * 8
        crew = Crew(3, *many)
        self.assertEqual((crew.size, crew.dimension), (8, 1))
        for f in (step("1 1 1"), step("2 1"), step("2 1 1")):
            self.assertEqual(caught(crew.enlist, f), ("TooMany", {"most": 8}))
        self.assertEqual(crew.size, 8)
        self.assertEqual(caught(Crew, 3, *many, step("2 1")), ("TooMany", {"most": 8}))
        crew.strike(7)
        self.assertIsNone(caught(crew.enlist, step("1 0 1")))
        self.assertEqual(crew.dimension, 2)


class MadeTest(unittest.TestCase):
    def test_errors_in_order(self):
        for value in ANY_VALUES + [25]:
            code, told = caught(Crew, value, *[step("2 1")] * 9)
            self.assertEqual(code, "InvalidOrder")
            self.assertIs(told["value"], value)
        self.assertEqual(caught(Crew, 3, step("1 1 1"), step("2 1"), step("2 1 1")),
                         ("UnlikeOrders", {"one": 3, "other": 2}))
        self.assertEqual(caught(Crew, 3, step("1 1 1"), step("2 1 1"), step("2 1")), ("NotSlow", {"first": (2, 1)}))
        self.assertEqual(caught(Crew, 3, step("0 1 1")), ("NotSlow", {"first": (0, 1)}))
        self.assertEqual(Crew(24).order, 24)
        self.assertEqual(Crew(2, step("1 1")).order, 2)
        self.assertEqual(Crew(order=2).order, 2)


class InsideTest(unittest.TestCase):
    def setUp(self):
        self.crew = Crew(6, step("1 0 1 0 0 0"), step("1 0 0 1 0 0"))

    def test_right(self):
        f = step("1 0 0 0 0 1")
        paper = Inside(self.crew, f, (pairs(0, 0, -1)))
        self.assertIsNone(paper.wrong())
        self.assertEqual((paper.title, paper.step, paper.shares()), ("inside", f, pairs(0, 0, -1)))
        self.assertIsInstance(paper, Paper)
        self.assertIsNone(Inside(shares=[], step=Step.still(4), crew=Crew(4)).wrong())

    def test_a_twin_is_kept(self):
        shares = pairs(0, 0, -1)
        paper = Inside(self.crew, step("1 0 0 0 0 1"), shares)
        self.crew.strike(0)
        shares.clear()
        paper.shares().clear()
        self.assertIsNone(paper.wrong())
        self.assertEqual((paper.crew.size, paper.shares()), (2, pairs(0, 0, -1)))

    def test_checks_0_to_2(self):
        self.assertEqual(Inside(self.crew, step("2 1 1"), []).wrong(), (0, 0))
        for text in NOT_SLOW:
            self.assertEqual(Inside(self.crew, step(text + " 1 0 0"), []).wrong(), (1, 1))
        for many in (0, 2, 4):
            self.assertEqual(Inside(self.crew, step("1 1 0 0 0 0"), [(0, 1)] * many).wrong(), (2, 0))
        self.assertEqual(Inside(Crew(3), step("1 1 0"), [(0, 1)]).wrong(), (2, 0))

    def test_check_3(self):
        f = step("1 0 0 0 0 1")
        for shares, place in (("1 0 -1", 3), ("0 2 -1", 4), ("0 0 1", 6), ("0 0 0", 6)):
            self.assertEqual(Inside(self.crew, f, numbers_of(shares)).wrong(), (3, place))
        for place in range(2, 7):
            wrong = Step(pairs(1, *[int(at >= place) for at in range(2, 7)]))
            if place not in (3, 4):
                self.assertEqual(Inside(self.crew, wrong, numbers_of("0 0 0")).wrong(), (3, place))
            self.assertEqual(Inside(Crew(6), wrong, []).wrong(), (3, place))


class BarredTest(unittest.TestCase):
    def setUp(self):
        self.crew = Crew(6, step("1 0 1 0 0 0"), step("1 0 0 1 0 0"))

    def test_right(self):
        f = step("1 0 0 0 1 0")
        weights = numbers_of("0 3/2 0 1 0")
        paper = Barred(self.crew, f, 5, weights)
        self.assertIsNone(paper.wrong())
        self.assertEqual((paper.title, paper.step, paper.place, paper.weights()), ("barred", f, 5, weights))
        self.assertIsInstance(paper, Paper)
        self.assertIsNone(Barred(weights=numbers_of("7"), place=2, step=step("1 1"), crew=Crew(2)).wrong())

    def test_a_twin_is_kept(self):
        weights = numbers_of("0 3/2 0 1 0")
        paper = Barred(self.crew, step("1 0 0 0 1 0"), 5, weights)
        self.crew.enlist(step("1 1 0 0 0 0"))
        weights.clear()
        paper.weights().clear()
        self.assertIsNone(paper.wrong())
        self.assertEqual(paper.crew.size, 2)

    def test_checks_0_to_2(self):
        self.assertEqual(Barred(self.crew, step("2 1 1"), 9, []).wrong(), (0, 0))
        for text in NOT_SLOW:
            self.assertEqual(Barred(self.crew, step(text + " 1 0 0"), 9, []).wrong(), (1, 1))
        for many in (0, 4, 6):
            self.assertEqual(Barred(self.crew, step("1 1 0 0 0 0"), 9, [(0, 1)] * many).wrong(), (2, 0))

    def test_check_3(self):
        f = step("1 0 0 0 1 0")
        for weights, place in (("0 1 0 1 0", 3), ("0 1 1 1 1", 3), ("0 3/2 1 1 1", 4), ("0 0 0 0 1", 6)):
            self.assertEqual(Barred(self.crew, f, 5, numbers_of(weights)).wrong(), (3, place))

    def test_check_4(self):
        for text, weights in (("1 0 0 0 0 0", "0 3/2 0 1 0"), ("1 0 1 0 0 0", "0 3/2 0 1 0"),
                              ("1 0 0 0 1 0", "0 0 0 0 0"), ("1 0 0 0 1 0", "5 0 0 0 0")):
            for place in (5, 2):
                self.assertEqual(Barred(self.crew, step(text), place, numbers_of(weights)).wrong(), (4, place))

    def test_barred(self):
        paper = Barred(self.crew, step("1 0 0 0 1 0"), 5, numbers_of("1 2 3 -1/2 4"))
        self.assertEqual(paper.barred(drift("1 0 0 0 0")), (1, 1))
        self.assertEqual(paper.barred(drift=drift("0 0 1/3 4 1/2")), (1, 1))
        self.assertEqual(caught(paper.barred, drift("1 0")), ("UnlikeOrders", {"one": 6, "other": 3}))


class DefinedHereTest(unittest.TestCase):
    def test_names(self):
        for name in ("Crew", "Inside", "Barred"):
            self.assertEqual(getattr(crews, name).__module__, "creepclocks.crews")
        for made in (Inside, Barred):
            self.assertEqual(made.__bases__, (Paper,))
            self.assertIn("wrong", vars(made))
        for name in ("steps", "enlist", "strike", "makers", "basis", "names", "recipe", "bar", "__contains__", "holds",
                     "layers", "renamed", "twin", "__repr__"):
            self.assertIn(name, vars(Crew))


if __name__ == "__main__":
    unittest.main()
