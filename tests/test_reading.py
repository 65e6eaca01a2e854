import unittest
from fractions import Fraction

from creepclocks import reading
from creepclocks.drifts import Drift
from creepclocks.reading import read_drift, read_row, read_step
from creepclocks.rows import Row
from creepclocks.steps import Step
from tests.helper import ANY_VALUES, caught, drift, numbers_of, pairs, row, step

ROW_TEXTS = ["0 0 0", "1 0 0", "-3/2 0 0 1", "0 1 1", "4 -1 1/2 -7/3 0", "0 -1 0", "0 0 0 -5/9", "-1 -1 -1 -1",
             "2 2 2", "0 1/2 0 0 0 1"]
STEP_TEXTS = ["0 0", "1 0", "1 1 0 0 0 0", "-1 1/2 0 -1 0 0", "0 0 3", "-7/5 0 0 11", "0 -1 1", "5 5 5 5"]
DRIFT_TEXTS = ["0", "1", "-1 1 3/2 -8/3", "0 0 0 1/7", "0 -2", "3 -3 1 -1 10"]
READERS = (read_row, read_step, read_drift)


class ReadBackTest(unittest.TestCase):
    def test_rows(self):
        for text in ROW_TEXTS:
            self.assertEqual(read_row(row(text).text()), row(text))

    def test_steps(self):
        for text in STEP_TEXTS:
            self.assertEqual(read_step(step(text).text()), step(text))

    def test_drifts(self):
        for text in DRIFT_TEXTS:
            self.assertEqual(read_drift(drift(text).text()), drift(text))

    def test_order_24(self):
        numbers = pairs(*[Fraction(k - 12, k + 1) for k in range(25)])
        for made, reader in ((Row(numbers), read_row), (Step(numbers[1:]), read_step),
                             (Drift(numbers[2:]), read_drift)):
            self.assertEqual(reader(made.text()), made)
            self.assertEqual(reader(str(made)).text(), made.text())

    def test_long_numbers(self):
        numbers = [(10 ** 60 - 1, 10 ** 59), (-10 ** 59, 10 ** 60 - 1), (-(10 ** 60 - 1), 1)]
        for made, reader in ((Row(numbers), read_row), (Step(numbers), read_step), (Drift(numbers), read_drift)):
            self.assertEqual(reader(made.text()), made)

    def test_known(self):
        self.assertEqual(read_step("-x + 1/2*x^2 - x^4 to 6"), step("-1 1/2 0 -1 0 0"))
        self.assertEqual(read_row("-3/2 + x to 2"), row("-3/2 1 0"))
        self.assertEqual(read_row("1 to 24").numbers(), [(1, 1)] + [(0, 1)] * 24)
        self.assertEqual(read_drift("2*x^24 to 24").numbers(), [(0, 1)] * 22 + [(2, 1)])
        self.assertEqual(read_step("0 to 2"), step("0 0"))
        self.assertEqual(read_drift("0 to 2"), drift("0"))
        self.assertIsInstance(read_row("x^2 to 3"), Row)
        self.assertIsInstance(read_step("x^2 to 3"), Step)
        self.assertIsInstance(read_drift("x^2 to 3"), Drift)

    def test_by_name(self):
        self.assertEqual(read_row(text="1 + x to 2"), row("1 1 0"))
        self.assertEqual(read_step(text="x to 2"), step("1 0"))
        self.assertEqual(read_drift(text="x^2 to 2"), drift("1"))


class OtherKindsTest(unittest.TestCase):
    def test_row_texts(self):
        for text in ROW_TEXTS:
            made = row(text)
            numbers = made.numbers()
            for reader, first, wanted in ((read_step, 1, Step), (read_drift, 2, Drift)):
                if all(number == (0, 1) for number in numbers[:first]):
                    self.assertEqual(reader(made.text()), wanted(numbers[first:]))
                else:
                    self.assertEqual(caught(reader, made.text()), ("InvalidText", {"at": 0}))

    def test_step_texts(self):
        for text in STEP_TEXTS:
            made = step(text)
            self.assertEqual(read_row(made.text()), made.as_row())
            if made.lead == (0, 1):
                self.assertEqual(read_drift(made.text()), Drift(made.numbers()[1:]))
            else:
                self.assertEqual(caught(read_drift, made.text()), ("InvalidText", {"at": 0}))

    def test_drift_texts(self):
        for text in DRIFT_TEXTS:
            made = drift(text)
            self.assertEqual(read_step(made.text()), Step([(0, 1)] + made.numbers()))
            self.assertEqual(read_row(made.text()), Row([(0, 1), (0, 1)] + made.numbers()))


class RefusedTest(unittest.TestCase):
    def refused(self, at, *texts, readers=READERS):
        for text in texts:
            for reader in readers:
                self.assertEqual(caught(reader, text), ("InvalidText", {"at": at}), (reader.__name__, text))

    def test_values_that_are_no_strings(self):
        for value in ANY_VALUES:
            if not isinstance(value, str):
                self.refused(0, value)
        self.refused(0, b"x^2 to 3", ["x^2", "to", "3"])

    def test_empty_string_and_first_words(self):
        self.refused(0, "", " ", "\n", "to", "to 6", "+ x^2 to 6", "- x^2 to 6", "-", "+", "+x^2 to 6", "--x^2 to 6",
                     "-0 to 6", "00 to 6", "y to 6", "X^2 to 6", "x2 to 6", "x^ to 6", "^2 to 6", "6", "*x^2 to 6",
                     "-", "x^2to 6", "x^2+x^3 to 6", "0.5*x^2 to 6", "(x^2) to 6", "x*2 to 6", "2*y^2 to 6", "xx2 to 6",
                     "xy3 to 6", "2*x_3 to 6", "2*xx3 to 6", "2*23 to 6", "2*x3 to 6", "x^2*3 to 6",
                     "2*3*x^2 to 6", "x*x to 6", "2x^2 to 6", "2**x^2 to 6", "-+x^2 to 6", "+-x^2 to 6",
                     readers=(read_drift,))
        self.refused(0, "", " ", "to", "+ x to 6", "- x to 6", "+x to 6", "--x to 6", "-0 to 6", "-0", "y to 6",
                     "x^1 to 6", "x^0 to 6", "x^-1 to 6", "x^+2 to 6", "x^2.0 to 6", "x^(2) to 6", "log(x) to 6")

    def test_space_at_an_end_and_two_spaces(self):
        self.refused(0, " x^2 to 6", "  x^2 to 6", " 0 to 6")
        self.refused(1, "x^2  to 6", "x^2  + x^3 to 6", "0  to 6", "x^2 ", "0 ")
        self.refused(2, "x^2 +  x^3 to 6", "x^2 to  6", "0 to  6", "x^2 to ", "0 to ")
        self.refused(3, "x^2 to 6 ", "x^2 to 6  ", "0 to 6 ", "x^2 + x^3  to 6")

    def test_line_feeds(self):
        self.refused(0, "x^2\n to 6", "\nx^2 to 6", "x^2\nto 6", "x^2\n+ x^3 to 6", "0\nto 6", "x^2\n")
        self.refused(1, "x^2 to\n 6", "x^2 \n to 6", "0 \nto 6")
        self.refused(2, "x^2 to 6\n", "x^2 + x^3\n to 6", "x^2 to \n6", "0 to 6\n")
        self.refused(3, "x^2 to 6 \n")

    def test_behind_0(self):
        self.refused(1, "0", "0 + x^2 to 6", "0 - x^2 to 6", "0 6", "0 0 to 6", "0 x^2 to 6", "0 TO 6", "0 to6")
        self.refused(2, "0 to", "0 to 1", "0 to x", "0 to 0", "0 to 25", "0 to 02", "0 to to", "0 to +6", "0 to -6")
        self.refused(3, "0 to 6 7", "0 to 6 to", "0 to 24 + x^2", "0 to 6 to 6")

    def test_behind_a_term(self):
        self.refused(1, "x^2", "x^2 x^3 to 6", "x^2 0 to 6", "x^2 6", "x^2 +x^3 to 6", "x^2 * x^3 to 6", "x^2 ++ x^3",
                     "x^2 +- x^3 to 6", "x^2 To 6", "x^2 -x^3 to 6")
        self.refused(3, "x^2 + x^3", "x^2 - x^3 x^4 to 6", "x^2 - x^3 6")

    def test_behind_a_sign(self):
        self.refused(2, "x^2 +", "x^2 -", "x^2 + + x^3 to 6", "x^2 + -x^3 to 6", "x^2 - -x^3 to 6", "x^2 + to 6",
                     "x^2 + 0 to 6", "x^2 - 0*x^3 to 6", "x^2 + 6", "x^2 + - x^3 to 6")

    def test_places_out_of_order(self):
        self.refused(2, "x^2 + x^2 to 6", "x^3 + x^2 to 6", "x^6 - x^5 to 6", "x^24 + x^24 to 24", "x^3 + x to 6",
                     "x^3 + 1 to 6", "x^3 + 2*x to 6", "x^2 - 1/2 to 6", "x^24 + x^25 to 24", "x^24 + x^2 to 24",
                     "x^24 - to 24", "x^24 +")
        self.refused(4, "x^2 + x^4 - x^3 to 6", "x^2 + x^4 - x^4 to 6")
        self.refused(2, "x + x to 6", "x + 1 to 6", "x + 2*x to 6", readers=(read_row, read_step))
        self.refused(2, "1 + 1 to 6", "1 - 2 to 6", readers=(read_row,))
        self.refused(4, "1 + x + x to 6", "1 + x + 1 to 6", readers=(read_row,))

    def test_places_above_24_and_above_the_order(self):
        self.refused(0, "x^25 to 24", "x^25 to 25", "x^100 to 24", "2*x^25 to 24", "-x^25 to 24")
        self.refused(2, "x^2 + x^25 to 24")
        self.refused(2, "x^7 to 6", "x^3 to 2", "x^24 to 23")
        self.refused(4, "x^2 + x^7 to 6", "x^2 - 3*x^24 to 23")
        for reader in READERS:
            self.assertEqual(reader("x^24 to 24").order, 24)
            self.assertEqual(reader("x^6 to 6").order, 6)

    def test_orders(self):
        for reader in READERS:
            self.assertEqual(reader("x^2 to 2").order, 2)
            self.assertEqual(reader("0 to 24").order, 24)
        self.refused(2, "x^2 to 1", "x^2 to 25", "x^2 to 0", "x^2 to -6", "x^2 to +6", "x^2 to 06", "x^2 to 6.0",
                     "x^2 to 6/1", "x^2 to 12/2", "x^2 to x", "x^2 to to", "x^2 to 100", "x^2 to 6,", "x^2 to six")
        self.refused(2, "1 to 1", "1/2 to 1", "x to 1", "x to 25", readers=(read_row,))
        self.refused(3, "x^2 to 6 6", "x^2 to 6 to 6", "x^2 to 6 + x^3", "x^2 to 6 x")

    def test_texts_that_end_too_early(self):
        self.refused(1, "0", "x^2", "-1/2*x^2")
        self.refused(2, "0 to", "x^2 to", "x^2 +", "x^2 -")
        self.refused(3, "x^2 + x^3")
        self.refused(4, "x^2 + x^3 to", "x^2 + x^3 -")

    def test_leading_zeros(self):
        self.refused(0, "x^02 to 6", "01*x^2 to 6", "03*x^2 to 6", "-02*x^2 to 6", "02/3*x^2 to 6", "2/03*x^2 to 6",
                     "00*x^2 to 6", "0*x^2 to 6", "-0*x^2 to 6", "0/1*x^2 to 6")
        self.refused(2, "x^2 + x^03 to 6", "x^2 + 05*x^3 to 6", "x^2 to 06")
        self.refused(0, "01 to 6", "-05 to 6", "1/02 to 6", readers=(read_row,))

    def test_fractions_not_in_lowest_terms(self):
        self.refused(0, "2/4*x^2 to 6", "-2/4*x^2 to 6", "3/3*x^2 to 6", "0/5*x^2 to 6", "5/0*x^2 to 6",
                     "10/5*x^2 to 6")
        self.refused(2, "x^2 + 2/4*x^3 to 6", "x^2 - 6/3*x^3 to 6")
        self.refused(2, "x + 2/4*x^2 to 6", readers=(read_row, read_step))
        self.refused(0, "2/4 to 6", "4/2 + x to 6", readers=(read_row,))

    def test_lower_part_1(self):
        self.refused(0, "2/1*x^2 to 6", "-2/1*x^2 to 6", "1/1*x^2 to 6")
        self.refused(2, "x^2 - 3/1*x^3 to 6")
        self.refused(0, "2/1 to 6", "1/1 to 6", readers=(read_row,))

    def test_1_ahead_of_the_sign(self):
        self.refused(0, "1*x^2 to 6", "-1*x^2 to 6", "1*x to 6", "-1*x to 6")
        self.refused(2, "x^2 + 1*x^3 to 6")
        self.assertEqual(read_row("1 to 2"), row("1 0 0"))
        self.assertEqual(read_row("-1 to 2"), row("-1 0 0"))

    def test_60_and_61_digits(self):
        digits = "1" + "0" * 59
        for reader in READERS:
            for fraction, wanted in ((digits, (10 ** 59, 1)), (f"3/{digits}", (3, 10 ** 59)),
                                     (f"{digits}/3", (10 ** 59, 3))):
                self.assertEqual(reader(f"{fraction}*x^2 to 2").numbers()[-1], wanted)
                upper, lower = wanted
                self.assertEqual(reader(f"-{fraction}*x^2 to 2").numbers()[-1], (-upper, lower))
        self.refused(0, f"{digits}0*x^2 to 6", f"3/{digits}0*x^2 to 6", f"{digits}0/3*x^2 to 6", f"-{digits}0*x^2 to 6")
        self.refused(2, f"x^2 + {digits}0*x^3 to 6", f"x^2 - 3/{digits}0*x^3 to 6")
        self.refused(0, f"{digits}0 to 6", f"-{digits}0 to 6", readers=(read_row,))
        self.assertEqual(read_row(f"-{digits} to 2"), Row([(-10 ** 59, 1), (0, 1), (0, 1)]))

    def test_places_0_and_1(self):
        self.refused(0, "1 to 6", "-1 to 6", "1/2 + x to 6", "-3 + x^2 to 6", readers=(read_step, read_drift))
        self.refused(0, "x to 6", "-x to 6", "2*x to 6", "-1/2*x + x^2 to 6", readers=(read_drift,))
        self.refused(2, "x + 2 to 6", readers=(read_step, read_row))

    def test_the_first_wrong_word_counts(self):
        self.refused(0, "x^25 x^3 to 99 ")
        self.refused(1, "x^2 x^25 to 99 ")
        self.refused(2, "x^2 + y to 99 ")
        self.refused(4, "x^2 + x^3 to 99 ")

    def test_long_texts(self):
        self.refused(0, "x" * 12000, "1" * 12000, "-" * 12000, " " * 12000)
        self.refused(3, "x^2 to 6" + " x" * 5000)

    def test_last_example_of_the_document(self):
        self.assertEqual(caught(read_step, "x + 2/4*x^2 to 6"), ("InvalidText", {"at": 2}))


class WholeOrderTest(unittest.TestCase):
    def test_reading_decides_like_writing(self):
        # Each text of a few words that is read is the very text of what was read.
        words = ["0", "1", "-1", "x", "-x", "2*x^2", "x^3", "+", "-", "to", "2", "3", ""]
        texts = [""]
        for _ in range(5):
            texts = [text + " " + word if text else word for text in texts for word in words]
            for text in texts:
                for reader in READERS:
                    told = caught(reader, text)
                    if told is None:
                        self.assertEqual(reader(text).text(), text)
                    else:
                        self.assertEqual(told[0], "InvalidText")
                        self.assertTrue(0 <= told[1]["at"] <= len(text.split(" ")))
            # Only beginnings that are not refused ahead of their end can become texts.
            texts = [text for text in texts if caught(read_row, text) is not None
                     and caught(read_row, text)[1]["at"] == len(text.split(" "))]


class DefinedHereTest(unittest.TestCase):
    def test_names(self):
        for name in ("read_row", "read_step", "read_drift"):
            self.assertEqual(getattr(reading, name).__module__, "creepclocks.reading")


if __name__ == "__main__":
    unittest.main()
