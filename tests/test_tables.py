import unittest
from fractions import Fraction

from creepclocks import tables
from creepclocks.drifts import drift_of
from creepclocks.steps import Step
from creepclocks.tables import Table, step_of_table, table_log, table_of, table_power
from tests.helper import ANY_VALUES, caught, numbers_of, pair, pairs, poly, step, times, unit

STEPS = ["0 0 0 0", "0 2 1 -1/2", "0 0 0 3", "1 0 0 0", "1 1 0 0", "1 0 -1/2 3", "-1 1 -1 2", "-1 0 0 0",
         "2 0 0 1", "-5/3 1 1/2 -2"]
SLOW = ["1 0 0 0", "1 1 0 0", "1 -1/2 3 1", "1 0 5 0", "1 0 0 -7/3"]
UNIT_TABLES = [["1 2 3", "0 1 4", "0 0 1"], ["1 0 1/2", "0 1 0", "0 0 1"], ["1 0 0", "0 1 0", "0 0 1"],
               ["1 -1 0 2", "0 1 1/3 0", "0 0 1 -5", "0 0 0 1"], ["1 7", "0 1"]]
EXPONENTS = [pair(text) for text in ("0", "1", "-1", "2", "-3", "1/2", "-2/3", "7/5")]


def table(rows):
    return Table([numbers_of(line) for line in rows])


def unit_rows(order):
    return [pairs(*unit(order, place)[1:]) for place in range(1, order + 1)]


def matrix(lines):
    return [[Fraction(*number) for number in line] for line in lines]


def matrix_product(one, other):
    many = range(len(one))
    return [[sum(one[i][k] * other[k][j] for k in many) for j in many] for i in many]


def as_table(rows):
    return Table([pairs(*line) for line in rows])


def matrix_sum(lines, factors):
    """The sum of factor_j M^j, with M as the matrix of the lines without the unit matrix."""
    many = range(len(lines))
    rest = [[number - (i == j) for j, number in enumerate(line)] for i, line in enumerate(matrix(lines))]
    part = [[Fraction(int(i == j)) for j in many] for i in many]
    found = [[Fraction(0) for j in many] for i in many]
    for factor in factors:
        found = [[found[i][j] + factor * part[i][j] for j in many] for i in many]
        part = matrix_product(part, rest)
    return as_table(found)


def by_powers(lines, t):
    factors = [Fraction(1)]
    for j in range(len(lines)):
        factors.append(factors[-1] * (Fraction(*t) - j) / (j + 1))
    return matrix_sum(lines, factors)


def by_log(lines):
    return matrix_sum(lines, [Fraction(0)] + [Fraction((-1) ** (j + 1), j) for j in range(1, len(lines) + 1)])


class MakingTest(unittest.TestCase):
    def test_values(self):
        made = table(["1 2 3", "4 5 6", "-7/2 8 9"])
        self.assertEqual(made.order, 3)
        self.assertEqual(len(made), 3)
        self.assertEqual(made.lines(), [numbers_of("1 2 3"), numbers_of("4 5 6"), numbers_of("-7/2 8 9")])
        self.assertEqual(made.power_line(2), numbers_of("4 5 6"))
        self.assertEqual(made.power_line(line=3), numbers_of("-7/2 8 9"))
        self.assertEqual(made.number(3, 1), (-7, 2))
        self.assertEqual(made.number(place=3, line=1), (3, 1))
        self.assertEqual(repr(made), "Table(3)")
        self.assertEqual(repr(Table(lines=unit_rows(24))), "Table(24)")
        self.assertIsInstance(made.power_line(1), list)

    def test_tuples(self):
        self.assertEqual(Table((tuple(numbers_of("1 2")), numbers_of("3 4"))), table(["1 2", "3 4"]))
        self.assertEqual(Table((tuple(numbers_of("1 2")), numbers_of("3 4"))).lines(),
                         [numbers_of("1 2"), numbers_of("3 4")])

    def test_no_list(self):
        for value in ANY_VALUES:
            if not isinstance(value, (list, tuple)):
                self.assertEqual(caught(Table, value), ("InvalidTable", {"at": -1}))

    def test_invalid_orders(self):
        for many in (0, 1, 25, 26):
            self.assertEqual(caught(Table, [numbers_of("0 " * many)] * many), ("InvalidOrder", {"value": many}))
            self.assertEqual(caught(Table, tuple([None] * many)), ("InvalidOrder", {"value": many}))
        for many in (2, 24):
            self.assertEqual(Table([numbers_of("0 " * many)] * many).order, many)

    def test_first_wrong_line(self):
        wrong = [value for value in ANY_VALUES] + [numbers_of("1 2"), numbers_of("1 2 3 4"), [(1, 1), (1, 1), (2, 4)],
                                                   [(1, 1), True, (1, 1)], [None] * 3, "123", (1, 2, 3)]
        for line in wrong:
            for at in range(3):
                lines = [numbers_of("1 2 3") for _ in range(3)]
                lines[at] = line
                self.assertEqual(caught(Table, lines), ("InvalidTable", {"at": at}))
                self.assertEqual(caught(Table, lines[:at + 1] + [[]] * (2 - at)), ("InvalidTable", {"at": at}))

    def test_invalid_places(self):
        made = table(["1 2", "3 4"])
        for wrong in (0, 3, -1, True, False, None, "1", (1, 1), [1], 10 ** 60):
            for act in (lambda: made.power_line(wrong), lambda: made.number(wrong, 1), lambda: made.number(1, wrong),
                        lambda: made.number(wrong, None)):
                code, told = caught(act)
                self.assertEqual(code, "InvalidPlace")
                self.assertIs(told["value"], wrong)

    def test_lists_are_copied(self):
        given = [numbers_of("1 2"), numbers_of("3 4")]
        made = Table(given)
        given[0][0] = (9, 1)
        given[1].append((9, 1))
        given.append(numbers_of("5 6"))
        told = made.lines()
        told[0][0] = (8, 1)
        told.pop()
        made.power_line(1).clear()
        self.assertEqual(made.lines(), [numbers_of("1 2"), numbers_of("3 4")])
        self.assertEqual(made, table(["1 2", "3 4"]))

    def test_equality(self):
        self.assertTrue(table(["1 2", "3 4"]) == table(["1 2", "3 4"]))
        self.assertFalse(table(["1 2", "3 4"]) != table(["1 2", "3 4"]))
        for other in (table(["1 2", "3 5"]), Table(unit_rows(3)), [numbers_of("1 2"), numbers_of("3 4")], step("1 2"),
                      None, 2):
            self.assertFalse(table(["1 2", "3 4"]) == other)
            self.assertFalse(other == table(["1 2", "3 4"]))


class ProductTest(unittest.TestCase):
    def test_as_matrices(self):
        one, other = table(["1 2 3", "4 5 6", "-7/2 8 9"]), table(["0 1 1/2", "2 0 0", "1 1 -1"])
        for a, b in ((one, other), (other, one), (one, one)):
            self.assertEqual(a * b, as_table(matrix_product(matrix(a.lines()), matrix(b.lines()))))
        self.assertEqual(one * Table(unit_rows(3)), one)
        self.assertNotEqual(one * other, other * one)

    def test_unlike_orders(self):
        one, other = Table(unit_rows(2)), Table(unit_rows(3))
        self.assertEqual(caught(lambda: one * other), ("UnlikeOrders", {"one": 2, "other": 3}))
        self.assertEqual(caught(lambda: other * one), ("UnlikeOrders", {"one": 3, "other": 2}))


class TableOfTest(unittest.TestCase):
    def test_line_by_line(self):
        for f in map(step, STEPS):
            made = table_of(f)
            power = unit(4, 0)
            for line in range(1, 5):
                power = times(power, poly(f))
                self.assertEqual(made.power_line(line), pairs(*power[1:]))
            self.assertEqual(made.power_line(1), f.numbers())

    def test_known(self):
        self.assertEqual(table_of(step("1 1 0")), table(["1 1 0", "0 1 2", "0 0 1"]))
        self.assertEqual(table_of(step=Step.still(24)), Table(unit_rows(24)))

    def test_behind_is_the_product(self):
        for f in map(step, STEPS):
            for g in map(step, STEPS):
                self.assertEqual(table_of(f * g), table_of(f) * table_of(g))

    def test_order_24(self):
        f = Step(pairs(*[Fraction(k - 9, k) for k in range(1, 25)]))
        g = Step(pairs(*[Fraction(5, k + 1) for k in range(24)]))
        self.assertEqual(table_of(f * g), table_of(f) * table_of(g))
        self.assertEqual(step_of_table(table_of(f)), f)


class StepOfTableTest(unittest.TestCase):
    def test_back(self):
        for f in map(step, STEPS):
            self.assertEqual(step_of_table(table_of(f)), f)
        self.assertEqual(step_of_table(table=table(["2 1", "0 4"])), step("2 1"))

    def test_not_a_table(self):
        for text in STEPS:
            right = table_of(step(text)).lines()
            for i in range(1, 4):
                for j in range(4):
                    lines = [list(line) for line in right]
                    lines[i][j] = pair(Fraction(*lines[i][j]) + 1)
                    # What is wrong behind the first wrong number does not count.
                    lines[3][3] = pair(Fraction(*lines[3][3]) + 1)
                    wanted = ("NotATable", {"line": i + 1, "place": j + 1})
                    self.assertEqual(caught(step_of_table, Table(lines)), wanted)

    def test_by_lines_and_then_by_places(self):
        self.assertEqual(caught(step_of_table, table(["1 1 0", "0 1 3", "5 5 5"])),
                         ("NotATable", {"line": 2, "place": 3}))
        self.assertEqual(caught(step_of_table, table(["1 1 0", "0 1 2", "5 5 5"])),
                         ("NotATable", {"line": 3, "place": 1}))


class TablePowerTest(unittest.TestCase):
    def tables(self):
        return [table(rows) for rows in UNIT_TABLES] + [table_of(step(text)) for text in SLOW]

    def test_against_the_sum(self):
        for made in self.tables():
            for t in EXPONENTS:
                self.assertEqual(table_power(made, t), by_powers(made.lines(), t))

    def test_powers(self):
        for made in self.tables():
            for s in EXPONENTS:
                for t in EXPONENTS:
                    both = pair(Fraction(*s) + Fraction(*t))
                    self.assertEqual(table_power(made, s) * table_power(made, t), table_power(made, both))
            self.assertEqual(table_power(made, (2, 1)), made * made)
            self.assertEqual(table_power(made, (1, 1)), made)
            self.assertEqual(table_power(made, (-1, 1)) * made, Table(unit_rows(made.order)))
            self.assertEqual(table_power(made, (0, 1)), Table(unit_rows(made.order)))

    def test_table_of_a_power(self):
        for f in map(step, SLOW):
            for t in EXPONENTS:
                self.assertEqual(table_power(table=table_of(f), t=t), table_of(f.power(t)))

    def test_order_24(self):
        f = Step(pairs(1, *[Fraction(1, k) for k in range(1, 24)]))
        self.assertEqual(table_power(table_of(f), (1, 2)), table_of(f.power((1, 2))))

    def test_not_unit(self):
        for made in self.tables():
            for i in range(made.order):
                for j in range(i + 1):
                    lines = made.lines()
                    lines[i][j] = pair(Fraction(*lines[i][j]) + Fraction(1, 2))
                    lines[-1][-1] = (7, 1)
                    wrong = Table(lines)
                    wanted = ("NotUnit", {"line": i + 1, "place": j + 1})
                    self.assertEqual(caught(table_power, wrong, (1, 2)), wanted)
                    self.assertEqual(caught(table_power, wrong, None), wanted)
                    self.assertEqual(caught(table_log, wrong), wanted)
        self.assertEqual(caught(table_log, table_of(step("2 1"))), ("NotUnit", {"line": 1, "place": 1}))
        self.assertEqual(caught(table_log, table_of(step("0 0"))), ("NotUnit", {"line": 1, "place": 1}))

    def test_invalid_number(self):
        for value in ANY_VALUES:
            code, told = caught(table_power, table(["1 7", "0 1"]), value)
            self.assertEqual(code, "InvalidNumber")
            self.assertIs(told["value"], value)


class TableLogTest(unittest.TestCase):
    def test_against_the_sum(self):
        for rows in UNIT_TABLES:
            self.assertEqual(table_log(table(rows)), by_log(table(rows).lines()))
        for text in SLOW:
            self.assertEqual(table_log(table_of(step(text))), by_log(table_of(step(text)).lines()))

    def test_first_line_is_the_drift(self):
        for f in map(step, SLOW):
            self.assertEqual(table_log(table=table_of(f)).power_line(1), [(0, 1)] + drift_of(f).numbers())

    def test_log_of_a_power(self):
        for rows in UNIT_TABLES:
            twice = [[pair(2 * number) for number in line] for line in matrix(table_log(table(rows)).lines())]
            self.assertEqual(table_log(table_power(table(rows), (2, 1))), Table(twice))


class UnchangedTest(unittest.TestCase):
    def test_nothing_changes(self):
        made = table(UNIT_TABLES[0])
        before = made.lines()
        for other in (made * made, table_power(made, (1, 2)), table_log(made), table_of(step("1 2 3"))):
            other.lines()[0].clear()
        caught(step_of_table, made)
        caught(made.number, 9, 9)
        self.assertEqual(made.lines(), before)


class DefinedHereTest(unittest.TestCase):
    def test_names(self):
        for name in ("Table", "table_of", "step_of_table", "table_power", "table_log"):
            self.assertEqual(getattr(tables, name).__module__, "creepclocks.tables")
        for name in ("lines", "power_line", "number", "__mul__", "__eq__", "__len__", "__repr__"):
            self.assertIn(name, vars(Table))


if __name__ == "__main__":
    unittest.main()
