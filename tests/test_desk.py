import unittest
from fractions import Fraction

from creepclocks import desk as desk_module
from creepclocks.desk import Desk
from creepclocks.partings import parted
from creepclocks.steps import Step
from tests.helper import ANY_VALUES, caught, pairs, step

F = step("1 1 0 0")
G = step("1 0 2 0")
FLIP = step("-1 1 0 2")
CRUSH = step("0 1 0 3")
STRETCH = step("2 1 0 0")
STEPS = {"f": F, "g": G, "flip": FLIP, "crush": CRUSH, "s": STRETCH}
FORTY = [a + b for a in "abcd" for b in "abcdefghij"]


def some_desk():
    desk = Desk(4)
    desk.do(*[("put", name, STEPS[name]) for name in STEPS])
    return desk


def full_desk(many=40):
    desk = Desk(4)
    desk.do(*[("put", name, F) for name in FORTY[:many]])
    return desk


def state(desk):
    return (desk.order, desk.size, desk.busy, desk.names(), [desk.held(name) for name in desk.names()], desk.history(),
            desk.text(), desk.journal(), repr(desk))


class DeedsTest(unittest.TestCase):
    def check(self, deed, **wanted):
        """Does a deed on some desk, and on one where its result takes the place of a step."""
        desk = some_desk()
        self.assertIsNone(desk.do(deed))
        held = {**STEPS, **wanted}
        self.assertEqual(desk.names(), sorted(held))
        for name in held:
            self.assertEqual(desk.held(name), held[name])
        self.assertEqual((desk.history(), desk.size), ((2, 0), len(held)))

    def test_put(self):
        self.check(("put", "new", CRUSH), new=CRUSH)
        self.check(("put", "f", CRUSH), f=CRUSH)

    def test_behind(self):
        self.check(("behind", "new", "f", "g"), new=F * G)
        self.check(("behind", "f", "f", "crush"), f=F * CRUSH)
        self.check(("behind", "g", "f", "g"), g=F * G)
        self.check(("behind", "f", "f", "f"), f=F * F)

    def test_back(self):
        self.check(("back", "new", "s"), new=~STRETCH)
        self.check(("back", "s", "s"), s=~STRETCH)

    def test_power(self):
        self.check(("power", "new", "crush", 2), new=CRUSH * CRUSH)
        self.check(("power", "new", "s", -3), new=STRETCH.power(-3))
        self.check(("power", "f", "f", (1, 2)), f=F.power((1, 2)))
        self.check(("power", "f", "crush", 0), f=Step.still(4))
        self.check(("power", "f", "g", (70, 1)), f=G.power((70, 1)))

    def test_rename(self):
        self.check(("rename", "new", "f", "s"), new=F.renamed(STRETCH))
        self.check(("rename", "s", "f", "s"), s=F.renamed(STRETCH))
        self.check(("rename", "crush", "crush", "flip"), crush=CRUSH.renamed(FLIP))

    def test_part(self):
        paper = parted(FLIP)
        self.check(("part", "pure", "slow", "flip"), pure=paper.pure, slow=paper.slow)
        self.check(("part", "flip", "f", "flip"), flip=paper.pure, f=paper.slow)
        self.check(("part", "g", "flip", "flip"), g=paper.pure, flip=paper.slow)

    def test_drop(self):
        desk = some_desk()
        desk.do(("drop", "g"))
        self.assertEqual(desk.names(), ["crush", "f", "flip", "s"])
        self.assertEqual(caught(desk.held, "g"), ("UnknownName", {"name": "g"}))

    def test_several(self):
        desk = Desk(4)
        desk.do(("put", "a", F), ("put", "b", G), ("behind", "c", "a", "b"), ("back", "a", "c"), ("drop", "b"),
                ("power", "c", "c", 2))
        self.assertEqual(desk.names(), ["a", "c"])
        self.assertEqual((desk.held("a"), desk.held("c")), (~(F * G), (F * G).power(2)))
        self.assertEqual((desk.history(), desk.size, repr(desk)), ((1, 0), 2, "Desk(2 steps)"))


class ErrorsTest(unittest.TestCase):
    def refused(self, deed, code, **told):
        """The deed is refused by do and tried, alone and behind others, and nothing is changed."""
        desk = some_desk()
        before = state(desk)
        for act in (desk.do, desk.tried):
            self.assertEqual(caught(act, deed), (code, told))
            self.assertEqual(caught(act, ("put", "new", F), ("drop", "f"), deed, ("drop", "new")),
                             (code, told) if "f" not in deed[2:] else ("UnknownName", {"name": "f"}))
            self.assertEqual(state(desk), before)

    def test_names_to_be_made(self):
        deeds = [("put", None), ("behind", "x", "y"), ("back", "x"), ("power", "x", None), ("rename", "x", "y"),
                 ("part", None, "x")]
        for value in ANY_VALUES + ["abcdefg", "A"]:
            if value == "x":
                continue
            for word, *rest in deeds:
                code, told = caught(some_desk().do, (word, value, *rest))
                self.assertEqual(code, "InvalidName")
                self.assertIs(told["value"], value)
            code, told = caught(some_desk().do, ("part", "q", value, "x"))
            self.assertEqual(code, "InvalidName")
            self.assertIs(told["value"], value)

    def test_put(self):
        for value in ANY_VALUES[:-1] + ["g", Desk(4)]:
            self.refused(("put", "q", value), "InvalidStep")
        for text in ("1 1", "2 0 0", "0 0 0 0 0"):
            self.refused(("put", "q", step(text)), "UnlikeOrders", one=4, other=len(text.split()))
        self.refused(("put", "Q", step("1 1")), "InvalidName", value="Q")

    def test_names_to_be_used(self):
        for value in ANY_VALUES + ["q", "F", "none"]:
            for deed in (("behind", "q", value, "y"), ("behind", "q", "g", value), ("back", "q", value),
                         ("power", "q", value, None), ("rename", "q", value, "crush"), ("rename", "q", "g", value),
                         ("part", "q", "r", value), ("drop", value)):
                code, told = caught(some_desk().do, deed)
                self.assertEqual(code, "UnknownName")
                self.assertIs(told["name"], value)
        self.refused(("behind", "q", "x", "y"), "UnknownName", name="x")
        self.refused(("rename", "q", "x", "y"), "UnknownName", name="x")
        self.refused(("behind", "Q", "x", "y"), "InvalidName", value="Q")

    def test_cant_turn(self):
        self.refused(("back", "q", "crush"), "CantTurn")
        self.refused(("rename", "q", "g", "crush"), "CantTurn")
        self.refused(("part", "q", "r", "crush"), "CantTurn")
        self.refused(("power", "q", "crush", -1), "CantTurn")

    def test_power(self):
        for value in ANY_VALUES + [65, -65]:
            if value in (0, 1, -1) and not isinstance(value, bool) or value == (1, 1):
                continue
            self.refused(("power", "q", "crush", value), "InvalidPower", value=value)
        for name in ("crush", "flip", "s"):
            self.refused(("power", "q", name, (1, 1)), "NotSlow", first=STEPS[name].lead)

    def test_part(self):
        self.refused(("part", "q", "q", "crush"), "SameName", name="q")
        self.refused(("part", "q", "q", "x"), "SameName", name="q")
        self.refused(("part", "Q", "Q", "x"), "InvalidName", value="Q")
        self.refused(("part", "g", "r", "x"), "UnknownName", name="x")

    def test_no_deeds(self):
        values = [None, 3, "put", [], ["drop", "f"], (), (None,), ("drop",), ("drop", "f", "g"), ("put", "q"),
                  ("put", "q", F, F), ("back", "q"), ("behind", "q", "f"), ("power", "q", "f"), ("rename", "q", "f"),
                  ("part", "q", "f"), ("part", "q", "f", "g", "h"), ("show", "f"), ("undo",), ("Drop", "f"),
                  (["drop"], "f"), (("drop",), "f"), (1, 2), F, ("behind", "q", "f", "g", "g"), ("back", "q", "f", "f"),
                  ("power", "q", "f", 1, 1), ("rename", "q", "f", "g", "g")]
        for value in values:
            desk = some_desk()
            before = state(desk)
            for act in (desk.do, desk.tried):
                self.assertEqual(caught(act, value), ("InvalidDeed", {"at": 0}), value)
                # It is checked ahead of everything else.
                self.assertEqual(caught(act, ("drop", "f"), ("drop", "x"), value, value), ("InvalidDeed", {"at": 2}))
            self.assertEqual(state(desk), before)

    def test_all_or_none(self):
        desk = some_desk()
        before = state(desk)
        self.assertEqual(caught(desk.do, ("put", "new", F), ("drop", "f"), ("drop", "f")),
                         ("UnknownName", {"name": "f"}))
        self.assertEqual(state(desk), before)
        self.assertEqual(caught(desk.do, ("drop", "g"), ("back", "crush", "crush"), ("drop", "x")), ("CantTurn", {}))
        self.assertEqual(state(desk), before)

    def test_too_many(self):
        desk = full_desk()
        before = state(desk)
        self.assertEqual(desk.size, 40)
        for deed in (("put", "q", G), ("behind", "q", "aa", "ab"), ("back", "q", "aa"), ("power", "q", "aa", 2),
                     ("rename", "q", "aa", "ab"), ("part", "q", "r", "aa"), ("part", "aa", "r", "aa"),
                     ("part", "q", "aa", "aa")):
            self.assertEqual(caught(desk.do, deed), ("TooMany", {"most": 40}))
            self.assertEqual(caught(desk.tried, deed), ("TooMany", {"most": 40}))
            self.assertEqual(caught(desk.do, deed, ("drop", "aa")), ("TooMany", {"most": 40}))
            self.assertEqual(state(desk), before)
            self.assertIsNone(caught(desk.twin().do, ("drop", "dj"), ("drop", "di"), deed))
        # It comes behind all other errors.
        for deed, code in ((("put", "q", None), "InvalidStep"), (("put", "q", step("1 1")), "UnlikeOrders"),
                           (("behind", "q", "aa", "x"), "UnknownName"), (("back", "q", "x"), "UnknownName"),
                           (("power", "q", "aa", None), "InvalidPower"), (("part", "q", "q", "aa"), "SameName"),
                           (("rename", "q", "x", "aa"), "UnknownName"), (("part", "q", "r", "x"), "UnknownName")):
            self.assertEqual(caught(desk.do, deed)[0], code)
        desk.do(("put", "aa", CRUSH))
        for deed in (("back", "q", "aa"), ("rename", "q", "ab", "aa"), ("part", "q", "r", "aa")):
            self.assertEqual(caught(desk.do, deed), ("CantTurn", {}))
        # An old name takes no new place, and a part may need two.
        self.assertIsNone(caught(desk.do, ("part", "aa", "ab", "ac"), ("behind", "dj", "aa", "ab")))
        desk = full_desk(39)
        self.assertEqual(caught(desk.do, ("part", "q", "r", "aa")), ("TooMany", {"most": 40}))
        self.assertIsNone(caught(desk.do, ("part", "q", "aa", "aa")))
        self.assertEqual(desk.size, 40)


class HistoryTest(unittest.TestCase):
    def test_undo_and_redo(self):
        desk = Desk(4)
        calls = [[("put", "a", F)], [("put", "b", G), ("behind", "a", "a", "b")], [("drop", "b")], [("drop", "a")],
                 [("put", "a", CRUSH)], [("power", "c", "a", 2), ("drop", "a")]]
        texts = [desk.text()]
        for call in calls:
            desk.do(*call)
            texts.append(desk.text())
        self.assertEqual(desk.history(), (6, 0))
        for back in range(1, 7):
            self.assertIsNone(desk.undo())
            self.assertEqual((desk.text(), desk.history()), (texts[6 - back], (6 - back, back)))
            self.assertEqual(desk.size, len(desk.names()))
        self.assertEqual(caught(desk.undo), ("NothingLeft", {}))
        self.assertEqual(desk.history(), (0, 6))
        for forth in range(1, 7):
            self.assertIsNone(desk.redo())
            self.assertEqual((desk.text(), desk.history()), (texts[forth], (forth, 6 - forth)))
        self.assertEqual(caught(desk.redo), ("NothingLeft", {}))
        self.assertEqual((desk.text(), desk.history()), (texts[6], (6, 0)))

    def test_a_new_call_ends_redo(self):
        desk = some_desk()
        desk.do(("drop", "f"))
        desk.do(("drop", "g"))
        desk.undo()
        desk.undo()
        self.assertEqual(desk.history(), (1, 2))
        desk.do(("drop", "s"))
        self.assertEqual(desk.history(), (2, 0))
        self.assertEqual(caught(desk.redo), ("NothingLeft", {}))
        desk.undo()
        self.assertEqual((desk.history(), desk.names()), ((1, 1), sorted(STEPS)))

    def test_a_call_that_changes_nothing_counts(self):
        desk = some_desk()
        desk.do(("put", "f", F))
        self.assertEqual(desk.history(), (2, 0))

    def test_a_call_without_deeds(self):
        desk = some_desk()
        desk.do(("drop", "f"))
        desk.undo()
        before = state(desk)
        self.assertIsNone(desk.do())
        self.assertEqual(desk.tried(), desk.text())
        self.assertEqual(state(desk), before)
        desk.redo()
        self.assertNotIn("f", desk.names())

    def test_a_refused_call(self):
        desk = some_desk()
        desk.do(("drop", "f"))
        desk.undo()
        self.assertEqual(caught(desk.do, ("drop", "x"))[0], "UnknownName")
        self.assertEqual(caught(desk.do, ("put", "q", F), None)[0], "InvalidDeed")
        self.assertEqual(desk.history(), (1, 1))
        desk.redo()
        self.assertEqual(desk.history(), (2, 0))

    def test_tried(self):
        desk = some_desk()
        desk.do(("drop", "s"))
        desk.undo()
        before = state(desk)
        deeds = [("behind", "f", "f", "g"), ("drop", "g")]
        found = desk.tried(*deeds)
        self.assertEqual(state(desk), before)
        desk.do(*deeds)
        self.assertEqual(desk.text(), found)

    def test_busy(self):
        desk = some_desk()
        self.assertIs(desk.busy, False)

        class Watching(Step):
            def __invert__(self):
                seen.append(desk.busy)
                return Step.__invert__(self)

        seen = []
        desk.do(("put", "w", Watching(pairs(1, 1, 0, 0))), ("back", "q", "w"))
        self.assertEqual((seen, desk.busy), ([True], False))
        for deeds in ([None], [("drop", "x")], [("back", "q", "crush")]):
            self.assertIsNotNone(caught(desk.do, *deeds))
            self.assertIs(desk.busy, False)


class DeskTest(unittest.TestCase):
    def test_orders(self):
        self.assertEqual((Desk().order, Desk(3).order, Desk(order=24).order), (6, 3, 24))
        for value in ANY_VALUES + [25]:
            code, told = caught(Desk, value)
            self.assertEqual(code, "InvalidOrder")
            self.assertIs(told["value"], value)

    def test_empty(self):
        desk = Desk()
        self.assertEqual(state(desk), (6, 0, False, [], [], (0, 0), "order 6\n", [], "Desk(0 steps)"))
        for act in (desk.undo, desk.redo):
            self.assertEqual(caught(act), ("NothingLeft", {}))

    def test_names_and_steps(self):
        desk = some_desk()
        self.assertEqual(desk.names(), ["crush", "f", "flip", "g", "s"])
        self.assertEqual(desk.held(name="flip"), FLIP)
        desk.names().clear()
        desk.journal().append(1)
        self.assertEqual((desk.size, len(desk.names()), desk.journal()), (5, 5, []))
        for value in ANY_VALUES + ["q", "F", ["f"], ("f",)]:
            code, told = caught(desk.held, value)
            self.assertEqual(code, "UnknownName")
            self.assertIs(told["name"], value)

    def test_text(self):
        self.assertEqual(some_desk().text(), "order 4\ncrush x^2 + 3*x^4 to 4\nf x + x^2 to 4\n"
                         "flip -x + x^2 + 2*x^4 to 4\ng x + 2*x^3 to 4\ns 2*x + x^2 to 4\n")

    def test_equal(self):
        one, other = some_desk(), Desk(4)
        for name in sorted(STEPS):
            other.do(("put", name, STEPS[name]))
        other.say("names")
        self.assertEqual(one, other)
        other.do(("put", "f", G))
        self.assertTrue(one != other)
        other.undo()
        self.assertEqual(one, other)
        other.do(("drop", "f"))
        self.assertFalse(one == other)
        self.assertFalse(Desk(4) == Desk(5))
        self.assertEqual(Desk(4), Desk(4))
        for value in (None, "order 4\n", {}, F):
            self.assertFalse(one == value)

    def test_twin(self):
        desk = some_desk()
        desk.say("drop f")
        desk.say("undo")
        twin = desk.twin()
        before = state(desk)
        self.assertEqual(state(twin), before)
        self.assertEqual(twin, desk)
        twin.say("redo")
        twin.do(("drop", "g"))
        self.assertEqual(state(desk), before)
        self.assertEqual((twin.history(), len(twin.journal()), twin.names()), ((3, 0), 3, ["crush", "flip", "s"]))
        there = state(twin)
        desk.redo()
        desk.undo()
        desk.undo()
        desk.say("names")
        self.assertEqual(state(twin), there)
        self.assertEqual(desk.names(), [])
        twin.undo()
        twin.undo()
        twin.undo()
        self.assertEqual(twin.names(), [])

    def test_large_numbers_stay_exact(self):
        f = Step(pairs(1, Fraction(10 ** 60 - 1, 10 ** 59 + 3), Fraction(-7, 10 ** 60 - 3), 1))
        desk = Desk(4)
        desk.do(("put", "f", f), ("power", "f", "f", 3), ("power", "f", "f", (1, 3)))
        self.assertEqual(desk.held("f"), f)
        desk.do(("power", "f", "f", 9))
        self.assertEqual(desk.held("f"), f.power((9, 1)))

    def test_defined_here(self):
        self.assertEqual(Desk.__module__, "creepclocks.desk")
        self.assertIs(getattr(desk_module, "Desk"), Desk)
        for name in ("names", "held", "do", "undo", "redo", "history", "tried", "say", "__call__", "journal", "text",
                     "twin", "__eq__", "__repr__"):
            self.assertIn(name, vars(Desk))


if __name__ == "__main__":
    unittest.main()
