import unittest

from creepclocks import desktexts
from creepclocks.desk import Desk
from creepclocks.desktexts import read_desk, write_desk
from creepclocks.steps import Step
from tests.helper import ANY_VALUES, caught, pairs, step

FORTY = [a + b for a in "abcd" for b in "abcdefghij"]
GOOD = "order 4\na x + x^2 to 4\nb 0 to 4\nzz -1/2*x - x^4 to 4\n"


def desk_of(order, *held):
    desk = Desk(order)
    desk.do(*[("put", name, f) for name, f in held])
    return desk


class WriteTest(unittest.TestCase):
    def test_texts(self):
        for order in (2, 6, 24):
            self.assertEqual(write_desk(Desk(order)), f"order {order}\n")
        desk = desk_of(4, ("zz", step("-1/2 0 0 -1")), ("b", step("0 0 0 0")), ("a", step("1 1 0 0")))
        self.assertEqual(write_desk(desk), GOOD)
        self.assertEqual(write_desk(desk=desk), desk.text())

    def test_unchanged(self):
        desk = desk_of(4, ("a", step("1 1 0 0")))
        write_desk(desk)
        self.assertEqual((desk.history(), desk.journal()), ((1, 0), []))


class ReadTest(unittest.TestCase):
    def test_back(self):
        many = desk_of(3, *[(name, Step(pairs(at - 20, f"{at}/7", -at))) for at, name in enumerate(FORTY)])
        one = desk_of(24, ("q", Step(pairs(*[f"{at}/{at + 1}" for at in range(24)]))))
        for desk in (Desk(2), Desk(24), one, many, desk_of(4, ("a", step("1 1 0 0")), ("aa", step("2 0 0 0")))):
            found = read_desk(desk.text())
            self.assertEqual(found, desk)
            self.assertEqual((found.order, found.size, found.text()), (desk.order, desk.size, desk.text()))
            self.assertEqual((found.history(), found.journal(), found.busy), ((0, 0), [], False))

    def test_read(self):
        desk = read_desk(text=GOOD)
        self.assertEqual(desk.names(), ["a", "b", "zz"])
        self.assertEqual(desk.held("zz"), step("-1/2 0 0 -1"))
        desk.do(("drop", "a"))
        desk.undo()
        self.assertEqual(write_desk(desk), GOOD)

    def test_no_strings(self):
        for value in ANY_VALUES + [b"order 4\n", Desk(4), [GOOD], ["order 4"]]:
            self.assertEqual(caught(read_desk, value), ("InvalidLine", {"line": 0}))

    def test_first_lines(self):
        for text in ("", "\n", "order 4", "order", "order\n", "order \n", "order  4\n", " order 4\n", "order 4 \n",
                     "Order 4\n", "order 1\n", "order 25\n", "order 04\n", "order +4\n", "order -4\n", "order four\n",
                     "order 4 4\n", "order 4.\n", "4\n", "a x to 4\n", "orders 4\n", "order 0\n", "order 2/1\n",
                     "order 40\n", "order 4\r\n", "order4\n", "order x\nq\n", "order 4 a x to 4\n"):
            self.assertEqual(caught(read_desk, text), ("InvalidLine", {"line": 0}), text)
        for order in range(2, 25):
            self.assertEqual(read_desk(f"order {order}\n"), Desk(order))

    def test_other_lines(self):
        ahead = "order 4\na x to 4\nb x to 4\n"
        for line in ("", " ", "c", "c ", "c  x to 4", " c x to 4", "c x to 4 ", "c x", "c x to", "c x to 5", "c x to 3",
                     "b x to 4", "a x to 4", "aa x to 4", "C x to 4", "c1 x to 4", "abcdefg x to 4", "cdefghi x to 4",
                     "c 1*x to 4", "c 2/4*x to 4", "c x - x to 4", "c 1 + x to 4", "c x^5 to 4", "order 4", "x to 4",
                     "c x + 0*x^2 to 4", "c x to 04", "c x to 4 to 4", "c x to  4", "c 0 + x to 4", "c x^4 + x to 4"):
            for behind in ("", "d x to 4\n", "\n", "x"):
                self.assertEqual(caught(read_desk, f"{ahead}{line}\n{behind}"), ("InvalidLine", {"line": 3}), line)
        self.assertIsNone(caught(read_desk, ahead + "c x to 4\n"))
        self.assertIsNone(caught(read_desk, ahead + "ba x to 4\n"))

    def test_missing_line_feeds(self):
        for text, line in (("order 4\na x to 4", 1), ("order 4\na x to 4\nb", 2), ("order 4\n ", 1), ("order 4\nx", 1),
                           ("order 4\na x to 4\n\n", 2), ("order 4\n\na x to 4", 1), (GOOD + "zzz x to 4", 4),
                           (GOOD + "q", 4), (GOOD[:-1], 3)):
            self.assertEqual(caught(read_desk, text), ("InvalidLine", {"line": line}), text)
        # The first line that cannot stand counts.
        self.assertEqual(caught(read_desk, "order 4\nb x to 4\na x to 4\nq"), ("InvalidLine", {"line": 2}))

    def test_the_41st_name(self):
        text = "order 2\n" + "".join(f"{name} x to 2\n" for name in FORTY)
        self.assertEqual(read_desk(text).size, 40)
        for further in ("q x to 2\n", "q x to 2\nr x to 2\n", "q", "q\n", "q x to 2"):
            self.assertEqual(caught(read_desk, text + further), ("InvalidLine", {"line": 41}))

    def test_numbers_with_60_digits(self):
        most = "9" * 60
        desk = read_desk(f"order 2\na {most}*x to 2\n")
        self.assertEqual(desk.held("a").lead, (int(most), 1))
        self.assertEqual(caught(read_desk, f"order 2\na {most}0*x to 2\n"), ("InvalidLine", {"line": 1}))


class DefinedHereTest(unittest.TestCase):
    def test_names(self):
        for name in ("write_desk", "read_desk"):
            self.assertEqual(getattr(desktexts, name).__module__, "creepclocks.desktexts")


if __name__ == "__main__":
    unittest.main()
