"""What the document's examples and the text of README.md show."""

import doctest
import pathlib
import unittest

from creepclocks.drifts import drift_of, flow_of, time_between
from creepclocks.errors import InvalidText
from creepclocks.reading import read_row, read_step
from creepclocks.rows import Row, reciprocal


class DocumentTest(unittest.TestCase):
    def test_drift_and_power_of_the_first_example(self):
        f = read_step("x + x^2 to 6")
        self.assertEqual(
            [str(drift_of(f)), str(f.power((1, 2)))],
            ["x^2 - x^3 + 3/2*x^4 - 8/3*x^5 + 31/6*x^6 to 6",
             "x + 1/2*x^2 - 1/4*x^3 + 1/4*x^4 - 5/16*x^5 + 27/64*x^6 to 6"])
        self.assertEqual(flow_of(drift_of(f), (1, 2)), f.power((1, 2)))
        self.assertEqual(time_between(f, f.power((1, 2))), (1, 2))

    def test_reciprocal_of_this_drift(self):
        # [15]: x^-2 + x^-1 - 1/2 + 2/3 x - 13/12 x^2, so the drift divided by x^2 has it times x^2.
        drift = drift_of(read_step("x + x^2 to 6"))
        self.assertEqual(str(reciprocal(Row(drift.numbers()))), "1 + x - 1/2*x^2 + 2/3*x^3 - 13/12*x^4 to 4")

    def test_last_example(self):
        with self.assertRaises(InvalidText) as held:
            read_step("x + 2/4*x^2 to 6")
        self.assertEqual((held.exception.at, held.exception.code), (2, "InvalidText"))

    def test_texts_of_the_document(self):
        self.assertEqual(str(read_step("-x + 1/2*x^2 - x^4 to 6")), "-x + 1/2*x^2 - x^4 to 6")
        self.assertEqual(repr(read_row("1 + x to 4")), "Row(1 + x to 4)")
        self.assertEqual(repr(read_step("x + x^2 to 6")), "Step(x + x^2 to 6)")


class ReadmeTest(unittest.TestCase):
    def test_readme(self):
        path = pathlib.Path(__file__).resolve().parent.parent / "README.md"
        blocks = path.read_text().split("```\n")[1::2]
        shown = [block for block in blocks if block.startswith(">>>")]
        self.assertTrue(shown)
        for block in shown:
            parsed = doctest.DocTestParser().get_doctest(block, {}, "README.md", None, 0)
            told = []
            failed, _ = doctest.DocTestRunner(verbose=False).run(parsed, out=told.append)
            self.assertEqual(failed, 0, "".join(told))


if __name__ == "__main__":
    unittest.main()
