import unittest
from fractions import Fraction

from creepclocks import seen
from creepclocks.likeness import three_numbers
from creepclocks.seen import Seen
from creepclocks.steps import Step
from tests.helper import ANY_VALUES, caught, numbers_of, pair, pairs, step


def put_all(text):
    """The seen step with these numbers, and what each of them settled."""
    found = Seen()
    return found, [found.put(number) for number in numbers_of(text)]


LEAD, KIND = ["lead"], ["lead", "kind"]
CRUSH, CREEP, FLIP, LOG = ["kind", "height", "strength"], ["kind", "flat", "strength"], ["flat", "strength"], ["log"]

CASES = [
    ("0 0 0 0", [LEAD, [], [], []]),
    ("1 0 0 0", [LEAD, [], [], []]),
    ("0 3", [LEAD, CRUSH]),
    ("0 0 0 -1/2 1 0", [LEAD, [], [], CRUSH, [], []]),
    ("1 2", [LEAD, CREEP]),
    ("1 2 0 0", [LEAD, CREEP, LOG, []]),
    ("1 0 1/3 0 5 1", [LEAD, [], CREEP, [], LOG, []]),
    ("1 0 0 0 2 0 0 0 1 7", [LEAD, [], [], [], CREEP, [], [], [], LOG, []]),
    ("2 0 1", [KIND, [], []]),
    ("-1/3 1 0", [KIND, [], []]),
    ("-1 0 0 0 0", [KIND, [], [], [], []]),
    ("-1 1 -1 3 -8 1", [KIND, [], [], [], FLIP, []]),
    ("-1 0 1 0 0 0", [KIND, [], FLIP, [], LOG, []]),
    ("-1 1 0 1 0 0 7", [KIND, [], FLIP, [], LOG, [], []]),
    ("-1 0 0 5 2 1 0 0 0 0", [KIND, [], [], [], FLIP, [], [], [], LOG, []]),
]


class SettledTest(unittest.TestCase):
    def test_what_each_number_settles(self):
        for text, wanted in CASES:
            found, told = put_all(text)
            self.assertEqual(told, wanted, text)
            self.assertEqual(list(found.settled()), [word for part in wanted for word in part])

    def test_values(self):
        for text, _ in CASES:
            found, _ = put_all(text)
            f, settled = step(text), found.settled()
            self.assertEqual(settled["lead"], f.lead)
            self.assertEqual(found.kind, settled.get("kind"))
            if f.kind in ("nothing", "still"):
                self.assertEqual((list(settled), found.kind), (["lead"], None))
                continue
            self.assertEqual(settled["kind"], f.kind)
            flat, strength, log = three_numbers(f)
            if f.kind == "crush":
                self.assertEqual((settled["height"], settled["strength"]), (f.height, f.strength))
            else:
                self.assertEqual((settled.get("flat"), settled.get("strength"), settled.get("log")),
                                 (flat, strength, log))

    def test_the_same_for_all_goings_on(self):
        for text, _ in CASES:
            found, _ = put_all(text)
            settled = found.settled()
            for further in ("0 0 0", "1 -1 2", "0 5 0"):
                for number in numbers_of(further):
                    if found.order < 24:
                        found.put(number)
                self.assertEqual({word: found.settled()[word] for word in settled}, settled)
                found, _ = put_all(text)

    def test_the_log_of_high_flats(self):
        for flat in (1, 2, 5, 11):
            found = Seen()
            numbers = pairs(1, *[0] * (flat - 1), *[Fraction(1, k) for k in range(flat + 1, 25)])
            told = [found.put(number) for number in numbers]
            self.assertEqual(told[0], LEAD)
            self.assertEqual(told[flat], CREEP)
            self.assertEqual(told[2 * flat], LOG)
            self.assertEqual(sum(map(len, told)), 5)
            self.assertEqual(found.settled()["log"], three_numbers(Step(numbers))[2])
        for flat in (12, 23):
            found = Seen()
            for number in pairs(1, *[0] * (flat - 1), *[1] * (24 - flat)):
                found.put(number)
            self.assertEqual(found.settled(), {"lead": (1, 1), "kind": "creep", "flat": flat, "strength": (1, 1)})

    def test_a_flip_of_the_order_24(self):
        found = Seen()
        told = [found.put(pair(-1 if at == 0 else int(at == 10))) for at in range(24)]
        self.assertEqual([at for at, part in enumerate(told) if part], [0, 10, 20])
        self.assertEqual(found.settled(), {"lead": (-1, 1), "kind": "flip", "flat": 10, "strength": (-1, 1),
                                           "log": three_numbers(found.shown())[2]})
        bare = Seen()
        told = [bare.put(pair(-1 if at == 0 else 0)) for at in range(24)]
        self.assertEqual([part for part in told if part], [KIND])


class SeenTest(unittest.TestCase):
    def test_values(self):
        found = Seen()
        self.assertEqual((found.order, found.kind, found.numbers(), found.settled()), (0, None, [], {}))
        self.assertEqual(repr(found), "Seen(0 numbers)")
        for at, number in enumerate(numbers_of("1 0 3 1")):
            found.put(number=number)
            self.assertEqual((found.order, repr(found)), (at + 1, f"Seen({at + 1} numbers)"))
        self.assertEqual((found.numbers(), found.kind), (numbers_of("1 0 3 1"), "creep"))

    def test_shown(self):
        found = Seen()
        for have in range(2):
            self.assertEqual(caught(found.shown), ("OrderTooLow", {"have": have, "wanted": 2}))
            self.assertEqual(found.order, have)
            found.put((1, 1))
        self.assertEqual(found.shown(), step("1 1"))
        found.put((5, 2))
        self.assertEqual(found.shown(), step("1 1 5/2"))

    def test_wrong_numbers(self):
        found, _ = put_all("1 0")
        for value in ANY_VALUES:
            if value == (1, 1):
                continue
            code, told = caught(found.put, value)
            self.assertEqual(code, "InvalidNumber")
            self.assertIs(told["value"], value)
        self.assertEqual((found.order, found.settled()), (2, {"lead": (1, 1)}))
        self.assertEqual(found.put((2, 1)), CREEP)

    def test_the_25th(self):
        found, _ = put_all("1 " * 24)
        before = (found.order, found.kind, found.numbers(), found.settled())
        self.assertEqual(caught(found.put, (1, 1)), ("TooMany", {"most": 24}))
        self.assertEqual(caught(found.put, None), ("InvalidNumber", {"value": None}))
        self.assertEqual((found.order, found.kind, found.numbers(), found.settled()), before)
        self.assertEqual(found.shown().order, 24)

    def test_twin(self):
        found, _ = put_all("1 0")
        twin = found.twin()
        self.assertEqual((twin.numbers(), twin.settled(), twin.kind), (found.numbers(), found.settled(), None))
        self.assertEqual(twin.put((2, 1)), CREEP)
        self.assertEqual((found.order, found.kind, twin.order, twin.kind), (2, None, 3, "creep"))
        self.assertEqual(found.put((0, 1)), [])
        self.assertEqual((found.order, found.settled()), (3, {"lead": (1, 1)}))
        self.assertEqual(twin.settled()["flat"], 2)

    def test_told_things_are_new(self):
        found = Seen()
        found.put((1, 1)).clear()
        found.numbers().clear()
        found.settled().clear()
        self.assertEqual((found.numbers(), found.settled()), ([(1, 1)], {"lead": (1, 1)}))
        self.assertEqual(found.put((3, 1)), CREEP)

    def test_defined_here(self):
        self.assertEqual(Seen.__module__, "creepclocks.seen")
        self.assertIs(getattr(seen, "Seen"), Seen)
        for name in ("put", "numbers", "settled", "shown", "twin", "__repr__"):
            self.assertIn(name, vars(Seen))


if __name__ == "__main__":
    unittest.main()
