"""The lines that a desk answers."""

import unittest

from creepclocks.clocks import clock_of
from creepclocks.crews import Crew
from creepclocks.desk import Desk
from creepclocks.likeness import three_numbers, unlike
from creepclocks.outlooks import outlook
from creepclocks.partings import parted
from creepclocks.ratios import fraction_text
from creepclocks.steps import Step, trade
from tests.helper import step

STEPS = {"f": step("1 1 0 0"), "g": step("1 0 2 0"), "half": step("1 1/2 -1/4 1/4"), "flip": step("-1 1 0 2"),
         "bare": step("-1 0 0 0"), "crush": step("0 1 0 3"), "s": step("-2 1 0 0"), "still": step("1 0 0 0"),
         "zero": step("0 0 0 0"), "high": step("1 0 0 1/2")}
# How many words a line has with this first word; for some it is the least number.
COUNTS = {"names": 1, "show": 2, "kind": 2, "flat": 2, "strength": 2, "log": 2, "clock": 2, "half": 2, "alike": 3,
          "trade": 3, "outlook": 3, "behind": 4, "back": 3, "power": 4, "rename": 4, "part": 4, "drop": 2, "undo": 1,
          "redo": 1}
LEAST = {"span": 2, "in": 3, "put": 3}
ONE_STEP = ["show", "kind", "flat", "strength", "log", "clock", "half"]
TWO_STEPS = ["alike", "trade", "outlook"]


def some_desk():
    desk = Desk(4)
    desk.do(*[("put", name, STEPS[name]) for name in STEPS])
    return desk


class LinesTest(unittest.TestCase):
    def setUp(self):
        self.desk = some_desk()

    def asked(self, line):
        """The answer to a question, which both ways of asking give, and which changes nothing."""
        text, history = self.desk.text(), self.desk.history()
        answer = self.desk.say(line)
        self.assertEqual(self.desk(line), answer)
        self.assertEqual((self.desk.text(), self.desk.history(), self.desk.busy), (text, history, False))
        self.assertEqual(self.desk.journal()[-2:], [(line, answer)] * 2)
        return answer


class QuestionsTest(LinesTest):
    def test_names(self):
        self.assertEqual(self.asked("names"), "bare crush f flip g half high s still zero")
        self.assertEqual(Desk(3).say("names"), "none")
        desk = Desk(3)
        desk.say("put none x to 3")
        self.assertEqual(desk.say("names"), "none")

    def test_show_and_kind(self):
        for name, f in STEPS.items():
            self.assertEqual(self.asked(f"show {name}"), f.text())
            self.assertEqual(self.asked(f"kind {name}"), f.kind)
        self.assertEqual(self.asked("show half"), "x + 1/2*x^2 - 1/4*x^3 + 1/4*x^4 to 4")

    def test_three_numbers(self):
        for name, f in STEPS.items():
            flat, strength, log = three_numbers(f)
            self.assertEqual(self.asked(f"flat {name}"), "none" if flat is None else str(flat))
            self.assertEqual(self.asked(f"strength {name}"), "none" if strength is None else fraction_text(strength))
            self.assertEqual(self.asked(f"log {name}"), "none" if log is None else fraction_text(log))
        self.assertEqual([self.asked(f"{word} half") for word in ("flat", "strength", "log")], ["1", "1/2", "2"])
        self.assertEqual([self.asked(f"{word} flip") for word in ("flat", "strength", "log")], ["2", "-1", "none"])
        self.assertEqual([self.asked(f"{word} g") for word in ("flat", "strength", "log")], ["2", "2", "none"])
        self.assertEqual(self.asked("strength high"), "1/2")
        for name in ("bare", "crush", "s", "still", "zero"):
            self.assertEqual(self.asked(f"strength {name}"), "none")

    def test_clock(self):
        for name, f in STEPS.items():
            if f.kind == "creep":
                self.assertEqual(self.asked(f"clock {name}"), clock_of(f).text())
            else:
                code = "IsStill" if name == "still" else "NotSlow"
                self.assertEqual(self.asked(f"clock {name}"), f"error {code}")

    def test_half(self):
        for name, f in STEPS.items():
            wanted = f.power((1, 2)).text() if f.lead == (1, 1) else "error NotSlow"
            self.assertEqual(self.asked(f"half {name}"), wanted)
        self.assertEqual(self.asked("half f"), STEPS["half"].text())

    def test_two_steps(self):
        for one, f in STEPS.items():
            for other, g in STEPS.items():
                paper = unlike(f, g)
                self.assertEqual(self.asked(f"alike {one} {other}"), "yes" if paper is None else paper.question)
                self.assertEqual(self.asked(f"trade {one} {other}"), "yes" if trade(f, g) else "no")
                self.assertEqual(self.asked(f"outlook {one} {other}"), outlook(f, g))
        self.assertEqual([self.asked(f"alike {line}") for line in ("f half", "f g", "f f", "f s")],
                         ["log", "flat", "yes", "kind"])
        self.assertEqual([self.asked(f"trade {line}") for line in ("f half", "f g", "g high", "zero still")],
                         ["yes", "no", "yes", "yes"])
        self.assertEqual([self.asked(f"outlook {line}") for line in ("g g", "f f", "f g", "s s")],
                         ["open", "sure", "never", "sure"])

    def test_span(self):
        for names in ("f", "f half", "f g", "g f", "still", "g high still g", "f f f f f f f f"):
            crew = Crew(4, *[STEPS[name] for name in names.split()])
            self.assertEqual(self.asked(f"span {names}"), str(crew.dimension))
        self.assertEqual([self.asked(f"span {names}") for names in ("still", "f half", "f g", "g high")],
                         ["0", "1", "3", "2"])
        self.assertEqual(self.asked("span f f f f f f f f f"), "error TooMany")
        self.assertEqual(self.asked("span f f f f f f f f zero"), "error TooMany")
        self.assertEqual(self.asked("span f f f f f f f f q"), "error UnknownName")
        self.assertEqual(self.asked("span f zero q"), "error UnknownName")
        self.assertEqual(self.asked("span f zero"), "error NotSlow")

    def test_in(self):
        for name, f in STEPS.items():
            for names in ("f", "g high", "still", "f g", "high half"):
                crew = Crew(4, *[STEPS[other] for other in names.split()])
                self.assertEqual(self.asked(f"in {name} {names}"), "yes" if f in crew else "no")
        self.assertEqual([self.asked(f"in {line}") for line in ("half f", "f half", "f g", "g g", "still g", "zero f")],
                         ["yes", "yes", "no", "yes", "yes", "no"])
        self.assertEqual(self.asked("in crush f f f f f f f f"), "no")
        self.assertEqual(self.asked("in crush f f f f f f f f f"), "error TooMany")
        self.assertEqual(self.asked("in crush f f f f f f f f q"), "error UnknownName")
        self.assertEqual(self.asked("in q f zero"), "error UnknownName")
        self.assertEqual(self.asked("in zero f zero"), "error NotSlow")

    def test_names_that_are_none(self):
        for word in ONE_STEP:
            for name in ("q", "F", "", "f\t", "none", "abcdefg", "1"):
                self.assertEqual(self.asked(f"{word} {name}"), "error UnknownName")
        for word in TWO_STEPS + ["span", "in"]:
            for names in ("f q", "q f", "zero ", " zero", " ", "q zero"):
                self.assertEqual(self.asked(f"{word} {names}"), "error UnknownName")


class UnknownTest(LinesTest):
    def test_numbers_of_words(self):
        for word, many in COUNTS.items():
            for wrong in range(1, 7):
                if wrong != many:
                    line = " ".join([word] + ["f"] * (wrong - 1))
                    self.assertEqual(self.asked(line), "unknown", line)
        for word, least in LEAST.items():
            for wrong in range(1, least):
                self.assertEqual(self.asked(" ".join([word] + ["f"] * (wrong - 1))), "unknown")

    def test_spaces(self):
        for word, many in COUNTS.items():
            line = " ".join([word] + ["f"] * (many - 1))
            for wrong in (line + " ", " " + line, line.replace(" ", "  ", 1) if many > 1 else line + "  "):
                self.assertEqual(self.asked(wrong), "unknown", wrong)

    def test_empty_words_are_words(self):
        self.assertEqual(self.asked("show "), "error UnknownName")
        self.assertEqual(self.asked("alike f "), "error UnknownName")
        self.assertEqual(self.asked("span f "), "error UnknownName")
        self.assertEqual(self.asked("in  f"), "error UnknownName")
        self.assertEqual(self.asked("drop "), "error UnknownName")
        self.assertEqual(self.asked("back  f"), "error InvalidName")
        self.assertEqual(self.asked("put f "), "error InvalidText")
        self.assertEqual(self.asked("put  x to 4"), "error InvalidName")
        self.assertEqual(self.asked("put  x"), "error InvalidText")

    def test_other_lines(self):
        for line in ("", " ", "Names", "names.", "text", "journal", "history", "say names", "height f", "lead f", "do",
                     "tried", "twin", "error", "unknown", "shows f", "SHOW f", "kinds f"):
            self.assertEqual(self.asked(line), "unknown", line)

    def test_line_feeds(self):
        for line in ("names\n", "\nnames", "show f\n", "show\nf", "span f\n", "span f \n", "in f f\n", "put q x to 4\n",
                     "put q\nx to 4", "put q x\nto 4", "undo\n", "drop f\n", "\n", "drop \nf", "in f \n f"):
            self.assertEqual(self.asked(line), "unknown", line)


class DeedsTest(LinesTest):
    def done(self, line, **wanted):
        """A line with a deed on a new desk, as a call of its own."""
        for act in (Desk.say, Desk.__call__):
            desk = some_desk()
            self.assertEqual(act(desk, line), "done")
            held = {**STEPS, **wanted}
            self.assertEqual(desk.names(), sorted(held))
            self.assertEqual({name: desk.held(name) for name in held}, held)
            self.assertEqual((desk.history(), desk.journal()), ((2, 0), [(line, "done")]))
            desk.undo()
            self.assertEqual(desk, some_desk())

    def test_done(self):
        f, g, s, flip = STEPS["f"], STEPS["g"], STEPS["s"], STEPS["flip"]
        self.done("put q x - 1/3*x^3 to 4", q=step("1 0 -1/3 0"))
        self.done("put f 0 to 4", f=step("0 0 0 0"))
        self.done("behind q f g", q=f * g)
        self.done("behind f g f", f=g * f)
        self.done("back q s", q=~s)
        self.done("rename q f s", q=f.renamed(s))
        self.done("part q r flip", q=parted(flip).pure, r=parted(flip).slow)
        self.done("part flip q flip", flip=parted(flip).pure, q=parted(flip).slow)
        self.done("power q f 1/2", q=STEPS["half"])

    def test_drop(self):
        self.assertEqual(self.desk.say("drop f"), "done")
        self.assertEqual(self.desk.say("show f"), "error UnknownName")
        self.assertEqual(self.desk.history(), (2, 0))

    def test_powers(self):
        s, f = STEPS["s"], STEPS["f"]
        for t in (-64, -2, 0, 1, 2, 64):
            self.done(f"power q s {t}", q=s.power(t))
            self.done(f"power q f {t}", q=f.power(t))
        self.done("power q crush 2", q=STEPS["crush"].power(2))
        for t in ("65", "-65", "1/2", "-7/3", "1000"):
            self.assertEqual(self.asked(f"power q s {t}"), "error NotSlow")
        self.done("power q f 65", q=f.power((65, 1)))
        self.done("power q f -1000", q=f.power((-1000, 1)))
        self.assertEqual(self.asked("power q crush -1"), "error CantTurn")
        many = "2" * 59 + "3"
        self.done(f"power q f {many}/64", q=f.power((int(many), 64)))

    def test_wrong_exponents(self):
        for t in ("", "x", "1/1", "2/4", "01", "+1", "--1", "1/0", "-0", "1.5", "1/", "1" * 61, "True"):
            for names in ("q f", "Q zz", " "):
                self.assertEqual(self.asked(f"power {names} {t}"), "error InvalidNumber")

    def test_wrong_texts(self):
        for text in ("", "x", "x to", "x to 1", "x to 25", "1 + x to 4", "x + 2/4*x^2 to 4", "x to 4 ", " x to 4",
                     "to 4", "x  to 4", "x to 4 to 4", "f"):
            for name in ("q", "Q", ""):
                self.assertEqual(self.asked(f"put {name} {text}"), "error InvalidText")
        self.assertEqual(self.asked("put Q x to 3"), "error InvalidName")
        self.assertEqual(self.asked("put q x to 3"), "error UnlikeOrders")

    def test_errors_in_order(self):
        for line, code in (("behind Q x y", "InvalidName"), ("behind q x y", "UnknownName"),
                           ("behind q f y", "UnknownName"), ("back Q x", "InvalidName"), ("back q x", "UnknownName"),
                           ("back q crush", "CantTurn"),
                           ("power Q x 1", "InvalidName"), ("power q x 1", "UnknownName"),
                           ("power q zero -1", "CantTurn"), ("power q zero 1/2", "NotSlow"),
                           ("rename Q x crush", "InvalidName"), ("rename q x crush", "UnknownName"),
                           ("rename q f y", "UnknownName"), ("rename q f crush", "CantTurn"),
                           ("part Q Q x", "InvalidName"), ("part q Q x", "InvalidName"), ("part q q x", "SameName"),
                           ("part q r x", "UnknownName"), ("part q r crush", "CantTurn"),
                           ("part q q crush", "SameName"),
                           ("drop x", "UnknownName"), ("drop Q", "UnknownName")):
            self.assertEqual(self.asked(line), f"error {code}", line)

    def test_too_many(self):
        desk = Desk(4)
        names = [a + b for a in "abcd" for b in "abcdefghij"]
        for name in names:
            self.assertEqual(desk.say(f"put {name} x + x^2 to 4"), "done")
        for line in ("put q x to 4", "behind q aa ab", "back q aa", "power q aa 2", "rename q aa ab", "part aa q aa"):
            self.assertEqual(desk.say(line), "error TooMany")
        self.assertEqual(desk.say("put q x to 5"), "error UnlikeOrders")
        self.assertEqual(desk.say("put aa x to 4"), "done")
        self.assertEqual((desk.history(), desk.size), ((41, 0), 40))

    def test_undo_and_redo(self):
        desk = Desk(4)
        self.assertEqual([desk("undo"), desk("redo")], ["error NothingLeft"] * 2)
        lines = ["put f x + x^2 to 4", "undo", "undo", "redo", "redo", "drop f", "undo", "put g x to 4", "redo",
                 "names"]
        self.assertEqual([desk(line) for line in lines],
                         ["done", "done", "error NothingLeft", "done", "error NothingLeft", "done", "done", "done",
                          "error NothingLeft", "f g"])


class StateTest(LinesTest):
    def test_the_answer_that_is_due(self):
        desk = self.desk
        lines = ["names", "show f", "kind f", "flat f", "strength f", "log f", "clock f", "half f", "alike f half",
                 "trade f half", "outlook f half", "span f half", "in half f"]
        before = [desk(line) for line in lines]
        self.assertEqual(desk("put f x + 3*x^3 to 4"), "done")
        behind = [desk(line) for line in lines]
        for one, other in zip(before[1:2] + before[3:5], behind[1:2] + behind[3:5]):
            self.assertNotEqual(one, other)
        self.assertEqual(behind[3:6], ["2", "3", "none"])
        self.assertEqual(behind[8:], ["flat", "no", "never", "3", "no"])
        desk("undo")
        self.assertEqual([desk(line) for line in lines], before)
        desk.redo()
        self.assertEqual([desk(line) for line in lines], behind)
        desk.do(("drop", "f"))
        self.assertEqual([desk(line) for line in lines[1:]], ["error UnknownName"] * 12)
        desk.undo()
        self.assertEqual([desk(line) for line in lines], behind)

    def test_journal(self):
        desk, lines = Desk(4), ["put f x to 4", "names", "undo", "what", "show f", "redo", "names", ""]
        answers = [desk.say(line=line) if at % 2 else desk(line=line) for at, line in enumerate(lines)]
        self.assertEqual(answers, ["done", "f", "done", "unknown", "error UnknownName", "done", "f", "unknown"])
        self.assertEqual(desk.journal(), list(zip(lines, answers)))
        desk.undo()
        desk.do(("put", "q", Step.still(4)))
        self.assertEqual(desk.journal(), list(zip(lines, answers)))
        twin = desk.twin()
        twin("names")
        self.assertEqual((len(twin.journal()), len(desk.journal())), (9, 8))

    def test_large_numbers_stay_exact(self):
        desk = Desk(3)
        large = "123456789" * 6 + "1"
        desk(f"put f x + {large}/7*x^2 - 1/{large}*x^3 to 3")
        self.assertEqual(desk("show f"), f"x + {large}/7*x^2 - 1/{large}*x^3 to 3")
        desk("power g f 3")
        f = desk.held("f")
        self.assertEqual(desk("show g"), (f * f * f).text())
        self.assertEqual(desk("trade f g"), "yes")
        desk("power h g 1/3")
        self.assertEqual(desk.held("h"), f)


if __name__ == "__main__":
    unittest.main()
