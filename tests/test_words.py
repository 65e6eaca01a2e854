import unittest
from fractions import Fraction

from creepclocks import words
from creepclocks.steps import Step
from creepclocks.words import is_name, is_word, sums, worked_out
from tests.helper import ANY_VALUES, as_step, caught, done_times, numbers_of, pair, pairs, poly, put_in, step

A = "1 1 0 2 0"
B = "1 0 -1/2 0 1"
C = "1 0 0 0 3"
NOT_SLOW = ["0 0 0", "0 1 2", "-1 1 0", "2 0 0", "1/2 1 1"]


def word(text):
    """The word of a text like `a b^-1 c^1/2`."""
    parts = [part.partition("^") for part in text.split()]
    return [(name, pair(t or "1")) for name, _, t in parts]


def steps():
    return {"a": step(A), "b": step(B), "c": step(C), "zzzzzz": Step.still(5)}


class NamesTest(unittest.TestCase):
    def test_names(self):
        for value in ("a", "z", "abcdef", "none", "to", "q" * 6):
            self.assertIs(is_name(value), True)
        for value in ANY_VALUES + ["abcdefg", "A", "aB", "a1", "a ", " a", "a-b", "a\n", ["a"], ("a",), "~", "`", "{"]:
            self.assertIs(is_name(value), value == "x", value)
        self.assertIs(is_name(value="q"), True)
        for code in range(256):
            for value in (chr(code), f"a{chr(code)}", f"{chr(code)}bcde"):
                self.assertIs(is_name(value), "a" <= chr(code) <= "z")


class WordTest(unittest.TestCase):
    def test_words(self):
        for value in ([], (), word("a"), tuple(word("a b^-1/2")), word("a " * 24), word("a^0 a^0"),
                      [("abcdef", (10 ** 59, 3))]):
            self.assertIs(is_word(value), True)
        self.assertIs(is_word(value=[]), True)

    def test_others(self):
        for value in ANY_VALUES:
            if value not in ([], ()):
                self.assertIs(is_word(value), False, value)
                self.assertIs(is_word([value]), False, value)
                self.assertIs(is_word([("a", value)]), False, value)
                self.assertIs(is_word([(value, (1, 1))]), value == "x", value)
        for value in (word("a " * 25), [["a", (1, 1)]], [("a", [1, 1])], [("a", (1, 1), 1)], [("a",)], ["a"],
                      ("a", (1, 1)), word("a") + [None], [None] + word("a"), [("a", 1)], [("a", (2, 4))],
                      {"a": (1, 1)}):
            self.assertIs(is_word(value), False, value)


class WorkedOutTest(unittest.TestCase):
    def test_empty_and_single(self):
        self.assertEqual(worked_out([], {}, order=4), Step.still(4))
        self.assertEqual(worked_out((), steps(), order=24), Step.still(24))
        for name in ("a", "b", "c"):
            f = steps()[name]
            self.assertEqual(worked_out([(name, (1, 1))], steps(), order=5), f)
            for t in (pair("-1"), pair("1/2"), pair("-7/3"), pair("0"), pair("3")):
                self.assertEqual(worked_out([(name, t)], steps(), order=5), f.power(t))

    def test_integer_powers(self):
        have = {name: poly(f) for name, f in steps().items()}
        for text in ("a b", "b a", "a b^-1", "a^2 b^-3 c a^-1", "c^-1 b a^3 zzzzzz^5 b^2", "a a a"):
            found = poly(Step.still(5))
            for name, t in word(text):
                found = put_in(found, done_times(have[name], t[0]))
            self.assertEqual(worked_out(word(text), steps(), order=5), as_step(found), text)

    def test_fractions(self):
        # Done twice, or as often as the lower part says, the powers have integers.
        a, b = steps()["a"], steps()["b"]
        for text, wanted in (("a^1/2 a^1/2", a), ("a^1/3 b a^-1/3", b.renamed(a.power((1, 3)))),
                             ("b^1/2 a^2/3", b.power((1, 2)) * a.power((2, 3)))):
            self.assertEqual(worked_out(word(text), steps(), order=5), wanted)

    def test_order_24(self):
        f = Step(pairs(1, *[Fraction(k % 3, k) for k in range(2, 25)]))
        g = Step(pairs(1, 0, *[Fraction(1, k) for k in range(3, 25)]))
        there = worked_out(word("f^1/2 g^-2 f " * 8), {"f": f, "g": g}, order=24)
        part = f.power((1, 2)) * g.power(-2) * f
        self.assertEqual(there, part.power(8))

    def test_by_name_and_unchanged(self):
        have, text = steps(), word("a b")
        worked_out(order=5, steps=have, word=text)
        self.assertEqual((have, text), (steps(), word("a b")))

    def test_errors_in_order(self):
        wrong = {"a": step("2 1"), "b": step("2 1 1"), "c": step("1 1"), "d": step("1 1 1")}
        for value in ANY_VALUES + [25]:
            code, told = caught(worked_out, None, {}, order=value)
            self.assertEqual(code, "InvalidOrder")
            self.assertIs(told["value"], value)
        for value in [None, 3, [None], word("a " * 25), [("A", (1, 1))], [("a", (1, 1)), ("q", (2, 2))], "a"]:
            self.assertEqual(caught(worked_out, value, {}, order=3), ("InvalidWord", {"at": 0}))
        self.assertEqual(caught(worked_out, word("b y a x"), wrong, order=3), ("UnknownName", {"name": "y"}))
        self.assertEqual(caught(worked_out, word("d b a c"), wrong, order=3), ("UnlikeOrders", {"one": 3, "other": 2}))
        self.assertEqual(caught(worked_out, word("d c b"), wrong, order=3), ("NotSlow", {"first": (2, 1)}))
        self.assertEqual(caught(worked_out, word("d c"), wrong, order=3), ("UnlikeOrders", {"one": 3, "other": 2}))
        self.assertIsNone(caught(worked_out, word("d d"), wrong, order=3))
        for text in NOT_SLOW:
            self.assertEqual(caught(worked_out, word("a"), {"a": step(text)}, order=3),
                             ("NotSlow", {"first": numbers_of(text)[0]}))
        # An exponent of 0 asks for the step all the same.
        self.assertEqual(caught(worked_out, word("q^0"), {}, order=3), ("UnknownName", {"name": "q"}))


class SumsTest(unittest.TestCase):
    def test_sums(self):
        texts = ["a b^1/2 a^-3 c", "", "b^-1/2 b^1/2", "c^2"]
        self.assertEqual(sums([word(text) for text in texts], ["a", "b", "d"]),
                         [pairs(-2, "1/2", 0), pairs(0, 0, 0), pairs(0, 0, 0), pairs(0, 0, 0)])
        self.assertEqual(sums(words=[], unknown=["a"]), [])
        self.assertEqual(sums((word("a"),), ()), [[]])
        self.assertEqual(sums([tuple(word("a^1/6 a^1/3"))], ("a",)), [[(1, 2)]])


class DefinedHereTest(unittest.TestCase):
    def test_names(self):
        for name in ("is_name", "is_word", "worked_out", "sums"):
            self.assertEqual(getattr(words, name).__module__, "creepclocks.words")


if __name__ == "__main__":
    unittest.main()
