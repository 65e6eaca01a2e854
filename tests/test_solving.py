import types
import unittest
from fractions import Fraction

from creepclocks import solving
from creepclocks.errors import Tied
from creepclocks.papers import Paper
from creepclocks.reading import read_step
from creepclocks.solving import Answered, Solver, solve, solved_places
from creepclocks.steps import Step
from creepclocks.words import sums, worked_out
from tests.helper import ANY_VALUES, caught, fractions_of, pair, pairs, step
from tests.test_words import word

GIVEN = {"g": "1 1 0 -1/2 0 1", "h": "1 0 2 1 0 0", "k": "1 -1/3 0 0 1 2"}
# Pairs of the unknown names and the words.
TASKS = [
    ("", []),
    ("a", ["a g"]),
    ("a", ["a a g^-1"]),
    ("a", ["a g a h^1/2"]),
    ("a", ["g a^-3/2 k a^1/2 g^-1 a^5"]),
    ("a", ["a"]),
    ("a b", ["a b g", "a b^-1 h"]),
    ("b a", ["a g b h a^-1 k", "b^1/2 g a^3 b"]),
    ("a b c", ["a b c g", "b g c^2", "c h a^-1 c^-1 k a^2"]),
    ("a b c d", ["a g", "b a b^-1 h b", "c a b d c^-1 k c^2", "d c^1/2 d^-1/3 g^-2"]),
]


def given(names=GIVEN):
    return {name: step(GIVEN[name]) for name in names}


def task(unknown, texts):
    return [word(text) for text in texts], unknown.split()


def solver_of(unknown="a b", texts=("a b g", "a b^-1 h")):
    words, names = task(unknown, texts)
    return Solver(words, unknown=names, order=6, given=given())


class SolveTest(unittest.TestCase):
    def test_all_words_are_still(self):
        for unknown, texts in TASKS:
            words, names = task(unknown, texts)
            found = solve(words, unknown=names, order=6, given=given())
            self.assertEqual(list(found), names)
            for text in texts:
                self.assertEqual(worked_out(word(text), {**given(), **found}, order=6), Step.still(6), text)
            self.assertIsNone(Answered(words, {**given(), **found}, 6).wrong())

    def test_document(self):
        words = [[("a", (1, 1)), ("g", (1, 1)), ("a", (1, 1)), ("t", (-1, 1))]]
        steps = {"g": read_step("x + x^3 to 5"), "t": read_step("x + x^2 + x^3 + x^4 + x^5 to 5")}
        found = solve(words, unknown=["a"], order=5, given=steps)
        self.assertEqual(str(found["a"]), "x + 1/2*x^2 - 1/4*x^3 - 1/2*x^4 + 11/16*x^5 to 5")

    def test_known(self):
        g = step(GIVEN["g"])
        self.assertEqual(solve([word("a g")], unknown=["a"], order=6, given={"g": g}), {"a": ~g})
        self.assertEqual(solve([word("a a g^-1")], unknown=("a",), order=6, given={"g": g}), {"a": g.power((1, 2))})
        self.assertEqual(solve((), unknown=[], order=6), {})
        self.assertEqual(solve([word("a")], unknown=["a"], order=2, given=None), {"a": Step.still(2)})
        self.assertEqual(solve([tuple(word("q"))], unknown=["q"], order=24), {"q": Step.still(24)})

    def test_order_24(self):
        g = Step(pairs(1, *[Fraction(k % 3 - 1, k) for k in range(2, 25)]))
        words = [word("a g a^1/2 b"), word("b g^-1 a b")]
        found = solve(words, unknown=["a", "b"], order=24, given={"g": g})
        self.assertIsNone(Answered(words, {"g": g, **found}, 24).wrong())
        cut = solve(words, unknown=["a", "b"], order=11, given={"g": g.cut(11)})
        self.assertEqual(cut, {name: f.cut(11) for name, f in found.items()})

    def test_unchanged(self):
        for act in (solve, Solver):
            words, names, steps = [word("a g")], ["a"], given()
            act(words, unknown=names, order=6, given=steps)
            self.assertEqual((words, names, steps), ([word("a g")], ["a"], given()))


class PlacesTest(unittest.TestCase):
    def test_the_same_as_solve(self):
        for unknown, texts in TASKS:
            words, names = task(unknown, texts)
            found = solve(words, unknown=names, order=6, given=given())
            wanted = [(place, [found[name].number(place) for name in names]) for place in range(2, 7)]
            self.assertEqual(list(solved_places(words, unknown=names, order=6, given=given())), wanted)
            solver = Solver(words, unknown=names, order=6, given=given())
            self.assertEqual([(solver.known + 1, solver.advance()) for _ in range(5)], wanted)

    def test_a_generator(self):
        places = solved_places([word("a g")], unknown=["a"], order=6, given=given())
        self.assertIsInstance(places, types.GeneratorType)
        self.assertEqual(next(places), (2, [(-1, 1)]))
        self.assertEqual(list(solved_places([], unknown=[], order=3)), [(2, []), (3, [])])

    def test_errors_with_the_first_item(self):
        for words, names, order, code in ((None, None, 25, "InvalidOrder"), (None, None, 6, "InvalidNames"),
                                          (None, [], 6, "InvalidWord"), ([word("g")], [], 6, "NotSquare"),
                                          ([word("a a^-1")], ["a"], 6, "Tied")):
            places = solved_places(words, unknown=names, order=order, given=given())
            self.assertEqual(caught(next, places)[0], code)
            self.assertEqual(caught(solve, words, unknown=names, order=order, given=given())[0], code)


class SolverTest(unittest.TestCase):
    def test_place_by_place(self):
        solver = solver_of()
        words, names = task("a b", ("a b g", "a b^-1 h"))
        found = solve(words, unknown=names, order=6, given=given())
        self.assertEqual((solver.order, solver.known, solver.unknown()), (6, 1, ["a", "b"]))
        for place in range(2, 7):
            numbers = solver.advance()
            self.assertEqual(numbers, [found[name].number(place) for name in names])
            self.assertEqual((solver.known, repr(solver)), (place, f"Solver({place} of 6)"))
            for name in names:
                self.assertEqual(solver.numbers(name), found[name].numbers()[:place])
                self.assertEqual(solver.answer(name), found[name].cut(place))
        self.assertEqual(caught(solver.advance), ("Solved", {}))
        self.assertEqual(solver.known, 6)
        self.assertEqual(solver.finish(), 0)

    def test_before_the_first_place(self):
        solver = solver_of()
        self.assertEqual(repr(solver), "Solver(1 of 6)")
        self.assertEqual(solver.numbers(name="b"), [(1, 1)])
        self.assertEqual(caught(solver.answer, "a"), ("OrderTooLow", {"have": 1, "wanted": 2}))
        self.assertEqual(caught(solver.answer, "g"), ("UnknownName", {"name": "g"}))

    def test_finish(self):
        for ahead in range(6):
            solver = solver_of()
            for _ in range(ahead):
                if solver.known < 6:
                    solver.advance()
            self.assertEqual(solver.finish(), 6 - 1 - ahead)
            self.assertEqual(solver.known, 6)
            self.assertEqual(solver.answer("a"), solver_done().answer(name="a"))

    def test_unknown_names(self):
        solver = solver_done()
        for value in ANY_VALUES + ["g", "c", "ab", ["a"], ("a", "b")]:
            for act in (solver.numbers, solver.answer):
                code, told = caught(act, value)
                self.assertEqual(code, "UnknownName")
                self.assertIs(told["name"], value)

    def test_twin(self):
        solver = solver_of()
        solver.advance()
        twin = solver.twin()
        self.assertEqual((repr(twin), twin.numbers("a"), twin.unknown()),
                         (repr(solver), solver.numbers("a"), solver.unknown()))
        twin.finish()
        self.assertEqual((solver.known, twin.known), (2, 6))
        self.assertEqual(len(solver.numbers("a")), 2)
        self.assertEqual(twin.answer("b"), solver_done().answer("b"))
        solver.advance()
        solver.finish()
        self.assertEqual(twin.answer("a"), solver.answer("a"))

    def test_lists_are_copied_and_new(self):
        words, names, steps = [word("a g")], ["a"], given()
        solver = Solver(words, unknown=names, order=6, given=steps)
        words[0].append(("g", (1, 1)))
        words.append([])
        names.append("b")
        steps["g"] = step("2 1")
        solver.unknown().clear()
        solver.numbers("a").clear()
        solver.advance().clear()
        twin = solver.twin()
        for one in (solver, twin):
            one.finish()
            self.assertEqual((one.unknown(), one.answer("a")), (["a"], ~step(GIVEN["g"])))


def solver_done():
    solver = solver_of()
    solver.finish()
    return solver


class ErrorsTest(unittest.TestCase):
    def refused(self, words, unknown, order, steps):
        """The error of the solver, which has to be that of the functions, too."""
        named = {"unknown": unknown, "order": order, "given": steps}
        found = caught(Solver, words, **named)
        self.assertEqual(caught(solve, words, **named), found)
        self.assertEqual(caught(next, solved_places(words, **named)), found)
        return found

    def test_order(self):
        for value in ANY_VALUES + [25]:
            code, told = caught(Solver, None, unknown=None, order=value, given={"a": step("2 1")})
            self.assertEqual(code, "InvalidOrder")
            self.assertIs(told["value"], value)

    def test_names(self):
        for value in (None, 3, "ab", {"a": 1}, step("1 1")):
            self.assertEqual(self.refused(None, value, 3, None), ("InvalidNames", {"at": -1}))
        for value in (list("abcde"), [None] * 5, tuple("aaaaa")):
            self.assertEqual(self.refused(None, value, 3, None), ("TooMany", {"most": 4}))
        for value in ANY_VALUES + ["ab1", "abcdefg"]:
            if value != "x":
                self.assertEqual(self.refused(None, ["a", value, "b"], 3, None), ("InvalidNames", {"at": 1}))
        for value, at in ((["a", "b", "a", "b"], 2), (["a", "a", None], 1), ([None, None], 0), (["b", None, "b"], 1)):
            self.assertEqual(self.refused(None, value, 3, None), ("InvalidNames", {"at": at}))

    def test_words(self):
        for value in (None, 3, "a", {"a": 1}):
            self.assertEqual(self.refused(value, ["a"], 3, {"a": step("2 1")}), ("InvalidWord", {"at": -1}))
        for value in (None, 3, "a", [None], word("a " * 25), [("A", (1, 1))], [["a", (1, 1)]]):
            self.assertEqual(self.refused([word("q"), value, None], ["a"], 3, {"a": step("2 1")}),
                             ("InvalidWord", {"at": 1}))

    def test_unknown_and_same_names(self):
        wrong = {"g": step("2 1"), "a": step("2 1 1")}
        self.assertEqual(self.refused([word("a g"), word("b x y"), word("z")], ["b", "a"], 3, wrong),
                         ("UnknownName", {"name": "x"}))
        self.assertEqual(self.refused([word("a")], [], 3, None), ("UnknownName", {"name": "a"}))
        self.assertEqual(self.refused([word("g a b")], ["b", "a"], 3, wrong), ("SameName", {"name": "a"}))
        self.assertEqual(self.refused([], ["g", "a"], 3, wrong), ("SameName", {"name": "g"}))

    def test_given_steps(self):
        for steps, found in (({"h": step("1 1"), "g": step("2 1 1")}, ("NotSlow", {"first": (2, 1)})),
                             ({"h": step("2 1 1"), "g": step("1 1")}, ("UnlikeOrders", {"one": 3, "other": 2})),
                             ({"g": step("2 1")}, ("UnlikeOrders", {"one": 3, "other": 2})),
                             ({"g": step("1 1 1"), "h": step("0 1 1")}, ("NotSlow", {"first": (0, 1)}))):
            # They are refused also if no word has them, and ahead of what is wrong with the words.
            for words in ([], [word("a a^-1")], [word("a"), word("a")]):
                self.assertEqual(self.refused(words, ["a"], 3, steps), found)

    def test_not_square(self):
        for texts, names in ((["a"], "a b"), (["a a^-1", "a"], "a"), ([], "a"), (["g"], "")):
            words, unknown = [word(text) for text in texts], names.split()
            self.assertEqual(self.refused(words, unknown, 6, given()),
                             ("NotSquare", {"equations": len(words), "unknowns": len(unknown)}))

    def test_tied(self):
        for unknown, texts in (("a", ["a a^-1"]), ("a", ["g"]), ("a b", ["a b", "a^2 g b^2"]),
                               ("a b", ["a b^-1", "b a^-1"]), ("a b", ["a a^-1", "b"]), ("a b", ["b", "g"]),
                               ("a b c", ["a b", "b c", "a b^2 c"]), ("a b c", ["a", "a^1/2 b", "b^7"]),
                               ("a b c d", ["a b", "c d", "a^2 d", "b^-2 d^5/2 c^2 d^1/2"])):
            words, names = task(unknown, texts)
            for act in (Solver, solve):
                with self.assertRaises(Tied) as held:
                    act(words, unknown=names, order=6, given=given())
                ties = fractions_of(held.exception.ties)
                self.assertEqual(len(ties), len(words))
                self.assertTrue(any(tie != 0 for tie in ties))
                self.assertEqual(pairs(*ties), held.exception.ties)
                for at in range(len(names)):
                    column = [Fraction(*line[at]) for line in sums(words, names)]
                    self.assertEqual(sum(a * b for a, b in zip(ties, column)), 0)

    def test_neither_refused_nor_tied(self):
        solver = Solver([], unknown=[], order=4)
        self.assertEqual((solver.unknown(), solver.advance(), solver.finish()), ([], [], 2))
        self.assertEqual(caught(solver.advance), ("Solved", {}))


class AnsweredTest(unittest.TestCase):
    def setUp(self):
        self.words, names = task("a b", ("a b g", "a b^-1 h"))
        self.steps = {**given(), **solve(self.words, unknown=names, order=6, given=given())}

    def test_right(self):
        paper = Answered(self.words, self.steps, 6)
        self.assertIsNone(paper.wrong())
        self.assertEqual((paper.title, paper.words(), paper.steps(), paper.order),
                         ("answered", self.words, self.steps, 6))
        self.assertIsInstance(paper, Paper)
        self.assertIsNone(Answered(order=3, steps={}, words=[]).wrong())
        self.assertIsNone(Answered([[], ()], {}, 3).wrong())
        self.assertEqual(Answered((tuple(word("a")),), {}, 3).words(), [word("a")])

    def test_copied(self):
        words, steps = [list(part) for part in self.words], dict(self.steps)
        paper = Answered(words, steps, 6)
        words[0].clear()
        words.append(word("a"))
        steps.clear()
        paper.words()[0].clear()
        paper.words().clear()
        paper.steps().clear()
        self.assertEqual((paper.words(), paper.steps(), paper.wrong()), (self.words, self.steps, None))

    def test_each_check(self):
        still = word("g g^-1")
        for at in range(4):
            for place in range(2, 7):
                wrong = Step(pairs(1, *[int(there >= place) for there in range(2, 7)]))
                words = [still] * at + [word("w"), word("w w"), still]
                self.assertEqual(Answered(words, {**given(), "w": wrong}, 6).wrong(), (at, place))
        for name in ("a", "b"):
            numbers = self.steps[name].numbers()
            numbers[4] = pair(Fraction(*numbers[4]) + 1)
            self.assertEqual(Answered(self.words, {**self.steps, name: Step(numbers)}, 6).wrong(), (0, 5))

    def test_raises_as_worked_out(self):
        steps = {"w": step("1 1 0"), "v": step("2 1 1"), "u": step("1 1")}
        for value in (None, 3, [None], word("a " * 25), "a"):
            paper = Answered([value], steps, 3)
            self.assertEqual(caught(paper.wrong), ("InvalidWord", {"at": 0}))
        self.assertEqual(caught(Answered([word("x")], steps, 3).wrong), ("UnknownName", {"name": "x"}))
        self.assertEqual(caught(Answered([word("v u")], steps, 3).wrong), ("UnlikeOrders", {"one": 3, "other": 2}))
        self.assertEqual(caught(Answered([word("w v")], steps, 3).wrong), ("NotSlow", {"first": (2, 1)}))
        self.assertEqual(caught(Answered([word("x")], steps, 25).wrong), ("InvalidOrder", {"value": 25}))
        # A word ahead that is not still is told first, and one behind it is not looked at.
        self.assertEqual(Answered([word("w"), word("x")], steps, 3).wrong(), (0, 2))
        self.assertEqual(caught(Answered([word("w w^-1"), word("x")], steps, 3).wrong),
                         ("UnknownName", {"name": "x"}))


class DefinedHereTest(unittest.TestCase):
    def test_names(self):
        for name in ("Solver", "Answered", "solve", "solved_places"):
            self.assertEqual(getattr(solving, name).__module__, "creepclocks.solving")
        self.assertEqual(Answered.__bases__, (Paper,))
        for name in ("words", "steps", "wrong"):
            self.assertIn(name, vars(Answered))
        for name in ("unknown", "advance", "finish", "numbers", "answer", "twin", "__repr__"):
            self.assertIn(name, vars(Solver))


if __name__ == "__main__":
    unittest.main()
