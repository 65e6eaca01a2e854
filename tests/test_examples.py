"""What the document's examples and the text of README.md show."""

import doctest
import pathlib
import unittest

from creepclocks.clocks import along, clock_of, gain, share
from creepclocks.crews import Crew
from creepclocks.desk import Desk
from creepclocks.drifts import drift_of, flow_of, time_between
from creepclocks.errors import InvalidText
from creepclocks.families import Family
from creepclocks.farrows import far_of
from creepclocks.folds import fold, unfold
from creepclocks.likeness import three_numbers, unlike
from creepclocks.outlooks import outlook
from creepclocks.partings import parted
from creepclocks.reading import read_row, read_step
from creepclocks.rows import Row, reciprocal
from creepclocks.solving import solve
from creepclocks.straight import straight_form
from creepclocks.tallies import Tally


class DocumentTest(unittest.TestCase):
    def test_first_example(self):
        f = read_step("x + x^2 to 6")
        self.assertEqual(
            [str(drift_of(f)), str(clock_of(f)), three_numbers(f), str(f.power((1, 2)))],
            ["x^2 - x^3 + 3/2*x^4 - 8/3*x^5 + 31/6*x^6 to 6",
             "-x^-1 + log(x) - 1/2*x + 1/3*x^2 - 13/36*x^3 from -1 to 3", (1, (1, 1), (1, 1)),
             "x + 1/2*x^2 - 1/4*x^3 + 1/4*x^4 - 5/16*x^5 + 27/64*x^6 to 6"])
        self.assertEqual(flow_of(drift_of(f), (1, 2)), f.power((1, 2)))
        self.assertEqual(time_between(f, f.power((1, 2))), (1, 2))

    def test_reciprocal_of_this_drift(self):
        # [15]: x^-2 + x^-1 - 1/2 + 2/3 x - 13/12 x^2, so the drift divided by x^2 has it times x^2.
        drift = drift_of(read_step("x + x^2 to 6"))
        self.assertEqual(str(reciprocal(Row(drift.numbers()))), "1 + x - 1/2*x^2 + 2/3*x^3 - 13/12*x^4 to 4")

    def test_parted(self):
        paper = parted(read_step("-x + x^2 + x^3 to 6"))
        self.assertEqual(
            [str(paper.pure), str(paper.slow), paper.wrong()],
            ["-x + x^2 - x^3 + 5*x^4 - 13*x^5 + 54*x^6 to 6", "x - 2*x^3 + x^4 - 5*x^5 + 5*x^6 to 6", None])

    def test_summed(self):
        f = read_step("x + x^2 + x^3 + x^4 + x^5 + x^6 to 6")
        w = read_row("x to 6")
        self.assertEqual(
            [str(along(w, f)), share(w, f), gain(along(w, f), f)],
            ["log(x) - 1/2*x + 1/12*x^2 from -1 to 3", (1, 1), [(0, 1), (1, 1), (0, 1), (0, 1), (0, 1)]])

    def test_straight_forms(self):
        for text, form, renamer in (
            ("x + x^2 to 6", "x + x^2 - 1/2*x^4 + 1/6*x^5 + 5/12*x^6 to 6",
             "x - 1/2*x^3 + 5/6*x^4 - 17/18*x^5 to 6"),
            ("x^2 + x^3 to 6", "x^2 to 6", "x + 1/2*x^2 + 1/8*x^3 + 7/16*x^4 + 11/128*x^5 to 6"),
        ):
            found = straight_form(read_step(text))
            self.assertEqual([str(found[0]), str(found[1])], [form, renamer])

    def test_family(self):
        family = Family(read_step("x + 4*x^3 to 5"), read_step("x + x^3 to 5"))
        h = family.member(lead=(-1, 1), time=(1, 2), top=[(1, 1), (0, 1)])
        self.assertEqual(
            [family.size, family.places(), family.scale(), str(h), family.read(h)],
            [3, [4, 5], (2, 1), "-2*x - 4*x^3 + 2*x^4 + 12*x^5 to 5", ((-1, 1), (1, 2), [(1, 1), (0, 1)])])

    def test_folds(self):
        f = fold(read_step("x + x^2 to 3"), 2)
        under, renamer = unfold(f, 2)
        self.assertEqual([str(f), str(under)], ["x + 1/2*x^3 - 1/8*x^5 to 6", "x + x^2 to 3"])

    def test_far_row(self):
        self.assertEqual(
            far_of(read_step("x - x^2 to 5")).polynomials(),
            [[(1, 1)], [(0, 1), (1, 1)], [(1, 2), (1, 1), (1, 1)], [(5, 6), (5, 2), (5, 2), (1, 1)]])

    def test_crew(self):
        crew = Crew(6, read_step("x + x^3 to 6"), read_step("x + x^4 to 6"))
        paper = crew.bar(read_step("x + x^5 to 6"))
        self.assertEqual(
            [crew.names(), [str(v) for v in crew.basis()], crew.recipe(read_step("x + x^6 to 6")), paper.place,
             paper.weights()],
            [[("step", 0), ("step", 1), ("bracket", 1, 0)], ["x^3 - 3/2*x^5 to 6", "x^4 to 6", "x^6 to 6"],
             [(0, 1), (0, 1), (-1, 1)], 5, [(0, 1), (3, 2), (0, 1), (1, 1), (0, 1)]])

    def test_solve(self):
        words = [[("a", (1, 1)), ("g", (1, 1)), ("a", (1, 1)), ("t", (-1, 1))]]
        given = {"g": read_step("x + x^3 to 5"), "t": read_step("x + x^2 + x^3 + x^4 + x^5 to 5")}
        found = solve(words, unknown=["a"], order=5, given=given)
        self.assertEqual(str(found["a"]), "x + 1/2*x^2 - 1/4*x^3 - 1/2*x^4 + 11/16*x^5 to 5")

    def test_unlike(self):
        f, g = read_step("x + x^2 to 3"), read_step("x + x^2 + x^3 to 3")
        paper = unlike(f, g)
        self.assertEqual([outlook(f.cut(2), g.cut(2)), outlook(f, g), paper.question, paper.told],
                         ["open", "never", "log", ((1, 1), (0, 1))])

    def test_desk(self):
        desk = Desk(order=4)
        self.assertEqual(
            [desk("put f x + x^2 to 4"), desk("power g f 1/2"), desk("show g"), desk("alike f g"), desk("span f g"),
             desk("clock h")],
            ["done", "done", "x + 1/2*x^2 - 1/4*x^3 + 1/4*x^4 to 4", "log", "1", "error UnknownName"])

    def test_texts_of_tallies(self):
        self.assertEqual(str(Tally(1, [(-1, 1), (1, 1), (-1, 2)])), "-x^-1 + log(x) - 1/2*x from -1 to 1")
        self.assertEqual(repr(Tally(1, [(-1, 1)] + [(0, 1)] * 4)), "Tally(-x^-1 from -1 to 3)")

    def test_last_example(self):
        with self.assertRaises(InvalidText) as held:
            read_step("x + 2/4*x^2 to 6")
        self.assertEqual((held.exception.at, held.exception.code), (2, "InvalidText"))

    def test_texts_of_the_document(self):
        self.assertEqual(str(read_step("-x + 1/2*x^2 - x^4 to 6")), "-x + 1/2*x^2 - x^4 to 6")
        self.assertEqual(repr(read_row("1 + x to 4")), "Row(1 + x to 4)")
        self.assertEqual(repr(read_step("x + x^2 to 6")), "Step(x + x^2 to 6)")


class ReadmeTest(unittest.TestCase):
    def test_readme(self):
        path = pathlib.Path(__file__).resolve().parent.parent / "README.md"
        blocks = path.read_text().split("```\n")[1::2]
        shown = [block for block in blocks if block.startswith(">>>")]
        self.assertTrue(shown)
        for block in shown:
            parsed = doctest.DocTestParser().get_doctest(block, {}, "README.md", None, 0)
            told = []
            failed, _ = doctest.DocTestRunner(verbose=False).run(parsed, out=told.append)
            self.assertEqual(failed, 0, "".join(told))


if __name__ == "__main__":
    unittest.main()
