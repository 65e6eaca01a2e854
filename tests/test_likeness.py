import unittest
from fractions import Fraction

from creepclocks import likeness
from creepclocks.clocks import clock_of
from creepclocks.drifts import drift_of
from creepclocks.likeness import Unlike, answer, is_alike, three_numbers, unlike
from creepclocks.papers import Paper
from creepclocks.steps import Step
from tests.helper import as_step, caught, fractions_of, one_over, pair, pairs, poly, renamed_poly, step

WORDS = ("kind", "lead", "height", "flat", "strength", "log")
LEADERS = ["0 0 0 0 0 0", "1 0 0 0 0 0", "2 0 1/2 0 -1 1", "-5/3 1 0 1/2 -2 3"]
CRUSHES = ["0 1 0 0 0 0", "0 -1/3 0 0 1 1", "0 0 2 1 0 1", "0 0 0 0 0 7"]
CREEPS = ["1 1 0 0 0 0", "1 -3/2 1 0 2 1", "1 0 1 0 0 0", "1 0 -1/2 3 1 1", "1 0 0 2 -1 5", "1 0 0 0 5/7 1"]
BARE = ["-1 0 0 0 0 0", "-1 1 -1 5 -13 54"]
FLIPS = ["-1 1 1 0 0 0", "-1 0 1 0 0 0", "-1 0 -3 0 2 0", "-1 0 0 0 1/2 7", "-1 2 0 1 0 1"]
EVERY = LEADERS + CRUSHES + CREEPS + BARE + FLIPS
RENAMERS = ["1 1 0 0 0 2", "2 1 1/2 0 0 1", "-1/3 0 1 0 2 0", "-1 1 1 0 0 0"]


def half(flip):
    return (flip * flip).power((1, 2))


def turned(text):
    """The flip -x behind a step."""
    return Step(pairs(*[-Fraction(number) for number in text.split()]))


class ThreeNumbersTest(unittest.TestCase):
    def test_creeps(self):
        for f in map(step, CREEPS):
            log = None if f.order < 2 * f.flat + 1 else clock_of(f).log
            self.assertEqual(three_numbers(f), (f.flat, f.strength, log))

    def test_log_number_from_the_drift(self):
        for f in map(step, CREEPS):
            if 2 * f.flat < f.order:
                v = fractions_of(drift_of(f).numbers())[f.flat - 1:]
                self.assertEqual(three_numbers(f)[2], pair(one_over(v + [Fraction(0)])[f.flat]))

    def test_orders_2k_and_2k_and_1(self):
        for flat in range(1, 12):
            numbers = pairs(1, *[0] * (flat - 1), 3, *range(1, flat))
            self.assertEqual(three_numbers(Step(numbers)), (flat, (3, 1), None))
            # A further last number d makes the log number fall by d/a^2.
            logs = [three_numbers(Step(numbers + [pair(d)]))[2] for d in (0, 1, -5)]
            ends = [Fraction(*log) - Fraction(*logs[0]) for log in logs]
            self.assertEqual(ends, [0, Fraction(-1, 9), Fraction(5, 9)])
        self.assertEqual(three_numbers(step("1 2")), (1, (2, 1), None))
        self.assertEqual(three_numbers(Step(pairs(1, *[0] * 22, 5))), (23, (5, 1), None))

    def test_flips(self):
        for f in map(step, FLIPS):
            self.assertEqual(three_numbers(f), three_numbers(half(f)))
            self.assertEqual(three_numbers(f)[0] % 2, 0)
        self.assertEqual(three_numbers(turned("1 0 3 0")), (2, (3, 1), None))
        self.assertEqual(three_numbers(turned("1 0 3 0 0")), (2, (3, 1), (3, 2)))

    def test_others(self):
        for text in LEADERS + CRUSHES + BARE:
            self.assertEqual(three_numbers(step(text)), (None, None, None))

    def test_known(self):
        self.assertEqual(three_numbers(step=step("1 1 0 0 0 0")), (1, (1, 1), (1, 1)))
        self.assertEqual(three_numbers(step("1 1 1 1 1 1")), (1, (1, 1), (0, 1)))
        self.assertEqual(three_numbers(step("1 2 4")), (1, (2, 1), (0, 1)))

    def test_kept_by_renamers_with_the_lead_1(self):
        for text in CREEPS + FLIPS:
            renamed = as_step(renamed_poly(poly(step(text)), poly(step("1 1 -2 0 1/2 3"))))
            self.assertEqual(three_numbers(renamed), three_numbers(step(text)))


class AnswerTest(unittest.TestCase):
    def told(self, f):
        return tuple(answer(f, word) for word in WORDS)

    def test_each_kind(self):
        none = (None, None, None)
        self.assertEqual(self.told(step("0 0 0")), ("nothing", (0, 1), None) + none)
        self.assertEqual(self.told(step("1 0 0")), ("still", (1, 1), None) + none)
        self.assertEqual(self.told(step("2 1 0")), ("stretch", (2, 1), None) + none)
        self.assertEqual(self.told(step("0 0 -2/3 1")), ("crush", (0, 1), 3, None, (-2, 3), None))
        self.assertEqual(self.told(step("0 5")), ("crush", (0, 1), 2, None, (5, 1), None))
        self.assertEqual(self.told(step("1 2 4")), ("creep", (1, 1), None, 1, (2, 1), (0, 1)))
        self.assertEqual(self.told(step("1 0 4 7")), ("creep", (1, 1), None, 2, (4, 1), None))
        self.assertEqual(self.told(step("-1 1 -1")), ("flip", (-1, 1), None) + none)
        self.assertEqual(self.told(turned("1 0 3 0 0")), ("flip", (-1, 1), None, 2, (3, 1), (3, 2)))
        self.assertEqual(answer(question="lead", step=step("2 1")), (2, 1))

    def test_against_the_steps(self):
        for f in map(step, EVERY):
            flat, strength, log = three_numbers(f)
            crush = f.kind == "crush"
            wanted = (f.kind, f.lead, f.height if crush else None, flat, f.strength if crush else strength, log)
            self.assertEqual(self.told(f), wanted)


class UnlikeTest(unittest.TestCase):
    def question(self, one, other):
        """The question at which two steps are unlike, None if they are alike; its paper is right."""
        paper = unlike(one, other)
        self.assertEqual(is_alike(one, other), paper is None)
        if paper is None:
            return None
        self.assertEqual((paper.one, paper.other), (one, other))
        self.assertEqual(paper.told, (answer(one, paper.question), answer(other, paper.question)))
        self.assertIsNone(paper.wrong())
        return paper.question

    def both(self, one, other, wanted):
        self.assertEqual(self.question(one, other), wanted, (one, other))
        self.assertEqual(self.question(other, one), wanted, (one, other))

    def test_renamed_steps_are_alike(self):
        for text in EVERY:
            for by in RENAMERS:
                renamed = as_step(renamed_poly(poly(step(text)), poly(step(by))))
                self.both(step(text), renamed, None)
            self.both(step(text), step(text), None)

    def test_kinds(self):
        for one in map(step, EVERY):
            for other in map(step, EVERY):
                if one.kind != other.kind:
                    self.both(one, other, "kind")

    def test_nothing_and_still(self):
        self.both(step("0 0"), step("0 0"), None)
        self.both(step("1 0"), step("1 0"), None)

    def test_leads(self):
        self.both(step("2 1 0"), step("2 0 7"), None)
        self.both(step("2 1 0"), step("-2 1 0"), "lead")
        self.both(step("2 0"), step("1/2 0"), "lead")

    def test_heights(self):
        self.both(step("0 1 1 0"), step("0 0 1 1"), "height")
        self.both(step("0 0 0 2"), step("0 0 2 2"), "height")

    def agreeing(self, make, n):
        """Makes steps with strengths and looks which of them are alike, for strengths that agree by n."""
        odd = n % 2 == 1
        for one, other, alike in (("1", "1", True), ("1", "-1", odd), ("-1", "1", odd), ("-3", "-3", True),
                                  ("5/7", "5/7", True), ("1", "2", n == 1), ("2/3", "3", n == 1),
                                  ("-1/2", "5", n == 1)):
            self.both(make(one), make(other), None if alike else "strength")
        for base in (Fraction(2), Fraction(-2), Fraction(-3, 2), Fraction(5, 3)):
            self.both(make("7"), make(str(7 * base ** n)), None)
            self.both(make("-7/5"), make(str(Fraction(-7, 5) / base ** n)), None)
            self.both(make("7"), make(str(-7 * base ** n)), None if odd else "strength")

    def test_strengths_of_crushes(self):
        for height in range(2, 7):
            self.agreeing(lambda a: step("0 " * (height - 1) + a + " 1" * (7 - height)), height - 1)
        self.both(step("0 " * 23 + "1"), step("0 " * 23 + str(2 ** 23)), None)
        self.both(step("0 " * 23 + "1"), step("0 " * 23 + str(2 ** 22)), "strength")

    def test_strengths_of_creeps(self):
        for flat in range(1, 7):
            self.agreeing(lambda a: step("1 " + "0 " * (flat - 1) + a + " 0" * (flat - 1)), flat)

    def test_strengths_of_flips(self):
        for flat in (2, 4):
            self.agreeing(lambda a: turned("1 " + "0 " * (flat - 1) + a + " 0" * (flat - 1)), flat)

    def test_flats(self):
        self.both(step("1 1 0 0"), step("1 0 1 0"), "flat")
        self.both(step("1 0 0 3"), step("1 0 3 0"), "flat")
        self.both(turned("1 0 1 0 0"), turned("1 0 0 0 1"), "flat")

    def test_logs(self):
        self.both(step("1 1 0"), step("1 1 1"), "log")
        self.both(step("1 1 0"), step("1 2 0"), None)
        self.both(step("1 1 0").cut(2), step("1 1 1").cut(2), None)
        self.both(step("1 0 1 0 0"), step("1 0 1 0 1"), "log")
        self.both(step("1 0 1 0 0"), step("1 0 4 0 1"), "log")
        self.both(step("1 0 1 0"), step("1 0 1 5"), None)
        self.both(turned("1 0 1 0 0"), turned("1 0 1 0 1"), "log")
        self.both(turned("1 0 1 0"), turned("1 0 4 0"), None)

    def test_flips_of_which_some_are_bare(self):
        for one in map(step, BARE):
            for other in map(step, BARE):
                self.both(one, other, None)
            for other in map(step, FLIPS):
                self.both(one, other, "flat")

    def test_first_question_of_several(self):
        self.both(step("0 0 2 1"), step("0 1 2 3"), "height")
        self.both(step("1 1 0 0 0"), step("1 0 2 0 1"), "flat")
        self.both(step("1 0 1 0 0"), step("1 0 2 0 1"), "strength")

    def test_pair_told(self):
        paper = unlike(step("1 1 0"), step("1 1 1"))
        self.assertEqual((paper.question, paper.told), ("log", ((1, 1), (0, 1))))
        self.assertEqual(unlike(step("-1 0 0"), turned("1 0 5")).told, (None, 2))
        self.assertEqual(unlike(step("1 0"), step("1 3")).told, ("still", "creep"))
        self.assertEqual(unlike(other=step("3 1"), one=step("2 0")).told, ((2, 1), (3, 1)))
        self.assertEqual(unlike(step("0 0 1"), step("0 0 2")).told, ((1, 1), (2, 1)))

    def test_unlike_orders(self):
        for act in (unlike, is_alike):
            self.assertEqual(caught(act, step("1 1"), step("2 1 1")), ("UnlikeOrders", {"one": 2, "other": 3}))
            self.assertEqual(caught(act, step("0 0 0"), step("0 0")), ("UnlikeOrders", {"one": 3, "other": 2}))
        self.assertIs(is_alike(other=step("1 1"), one=step("1 2")), True)
        self.assertIs(is_alike(step("1 1"), step("2 2")), False)


class UnlikePaperTest(unittest.TestCase):
    def wrong(self, one, other, question, told):
        return Unlike(step(one), step(other), question, told).wrong()

    def test_title_and_attributes(self):
        one, other, told = step("1 1 0"), step("1 1 1"), ((1, 1), (0, 1))
        paper = Unlike(one, other, "log", told)
        self.assertEqual((paper.title, paper.one, paper.other, paper.question, paper.told),
                         ("unlike", one, other, "log", told))
        self.assertIsInstance(paper, Paper)
        self.assertIsNone(Unlike(told=told, question="log", other=other, one=one).wrong())

    def test_check_0(self):
        self.assertEqual(self.wrong("1 1", "1 1 1", "log", (None, (0, 1))), (0, 0))
        self.assertEqual(self.wrong("1 1 0", "2 1", "kind", ("creep", "stretch")), (0, 0))

    def test_check_1(self):
        for told in (((0, 1), (1, 1)), ((1, 1), (1, 1)), ((1, 1), None), (None, None), None, ((1, 1),), (),
                     ((1, 1), (0, 1), (0, 1)), [(1, 1), (0, 1)], "log", 1, ("creep", "creep")):
            self.assertEqual(self.wrong("1 1 0", "1 1 1", "log", told), (1, 0))
        for word in ("kind", "lead", "height", "flat", "strength"):
            self.assertEqual(self.wrong("1 1 0", "1 1 1", word, ((1, 1), (0, 1))), (1, 0))
        self.assertEqual(self.wrong("0 0 1", "0 1 0", "height", (2, 3)), (1, 0))

    def test_check_2(self):
        f, g = "1 1 0", "1 1 1"
        self.assertEqual(self.wrong(f, g, "kind", ("creep", "creep")), (2, 0))
        self.assertEqual(self.wrong(f, g, "lead", ((1, 1), (1, 1))), (2, 0))
        self.assertEqual(self.wrong(f, g, "height", (None, None)), (2, 0))
        self.assertEqual(self.wrong(f, g, "flat", (1, 1)), (2, 0))
        self.assertEqual(self.wrong(f, g, "strength", ((1, 1), (1, 1))), (2, 0))
        self.assertIsNone(self.wrong(f, g, "log", ((1, 1), (0, 1))))
        self.assertEqual(self.wrong("2 0", "3 0", "strength", (None, None)), (2, 0))
        self.assertEqual(self.wrong("-1 0", "-1 5", "flat", (None, None)), (2, 0))

    def test_other_questions_than_the_first_one(self):
        self.assertIsNone(self.wrong("1 1 0", "2 1 0", "lead", ((1, 1), (2, 1))))
        self.assertIsNone(self.wrong("1 1 0", "2 1 0", "flat", (1, None)))
        self.assertIsNone(self.wrong("1 1 0", "2 1 0", "strength", ((1, 1), None)))
        self.assertIsNone(self.wrong("2 1 0", "1 1 0", "strength", (None, (1, 1))))
        self.assertIsNone(self.wrong("0 1 0", "1 0 0", "height", (2, None)))

    def test_agreeing_strengths(self):
        # By the flat of the first step, or by its height less 1.
        self.assertEqual(self.wrong("1 5 0 0", "1 0 1 0", "strength", ((5, 1), (1, 1))), (2, 0))
        self.assertIsNone(self.wrong("1 0 1 0", "1 5 0 0", "strength", ((1, 1), (5, 1))))
        self.assertEqual(self.wrong("1 0 4 0", "1 9 0 0", "strength", ((4, 1), (9, 1))), (2, 0))
        self.assertEqual(self.wrong("0 5 0 0", "0 0 1 0", "strength", ((5, 1), (1, 1))), (2, 0))
        self.assertIsNone(self.wrong("0 0 1 0", "0 5 0 0", "strength", ((1, 1), (5, 1))))
        self.assertEqual(self.wrong("0 0 0 1", "1 8 0 0", "strength", ((1, 1), (8, 1))), (2, 0))
        self.assertIsNone(self.wrong("0 0 0 1", "1 4 0 0", "strength", ((1, 1), (4, 1))))
        self.assertEqual(self.wrong("-1 0 1 0", "0 0 0 -4", "strength", ((-1, 1), (-4, 1))), (2, 0))
        self.assertIsNone(self.wrong("-1 0 1 0", "0 0 0 4", "strength", ((-1, 1), (4, 1))))


class DefinedHereTest(unittest.TestCase):
    def test_names(self):
        for name in ("Unlike", "three_numbers", "answer", "unlike", "is_alike"):
            self.assertEqual(getattr(likeness, name).__module__, "creepclocks.likeness")
        self.assertEqual(Unlike.__bases__, (Paper,))
        self.assertIn("wrong", vars(Unlike))


if __name__ == "__main__":
    unittest.main()
