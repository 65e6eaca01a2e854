import unittest

from creepclocks import errors
from creepclocks.steps import Step
from tests.helper import caught

CREEP_ERRORS = (
    "InvalidNumber(value), InvalidFraction(at), InvalidOrder(value), OrderTooLow(have, wanted), "
    "UnlikeOrders(one, other), InvalidPlace(value), InvalidPower(value), InvalidTimes(value), InvalidText(at), "
    "InvalidTable(at), CantTurn(), NotSlow(first), IsStill(have), NotOne(first), NotUnit(line, place), "
    "NotATable(line, place), NotAFlow(place), InvalidFlat(value), NotAClock(), UnlikeFlats(one, other), "
    "NotAlike(paper), InvalidLead(value), InvalidTime(value), InvalidTop(at), NotInFamily(place), NoFlips(), "
    "NotFolded(value), InvalidFar(at), NotFar(place), NotLed(first), NotInCrew(paper), InCrew(), InvalidName(value), "
    "InvalidNames(at), InvalidWord(at), SameName(name), NotOpen(), InvalidStep(), InvalidPaper(at), InvalidDeed(at), "
    "InvalidLine(line), TooMany(most), Solved()"
)
NO_ANSWERS = "DividedByZero(), Tied(ties), NotSquare(equations, unknowns)"
MISSINGS = "UnknownName(name), UnknownStep(at)"
BASES = {"CreepError": ValueError, "NoAnswer": ArithmeticError, "Missing": LookupError}


def listed():
    """For each class the triple of its name, its base and the names of its parameters."""
    found = []
    for base, text in ((errors.CreepError, CREEP_ERRORS), (errors.NoAnswer, NO_ANSWERS), (errors.Missing, MISSINGS),
                       (IndexError, "NothingLeft()")):
        for entry in text.split("), "):
            name, words = entry.rstrip(")").split("(")
            found.append((name, base, [word for word in words.split(", ") if word]))
    return found


class ErrorsTest(unittest.TestCase):
    def test_all_classes_are_there(self):
        self.assertEqual(len(listed()), 49)
        here = [name for name, value in vars(errors).items() if isinstance(value, type)]
        self.assertEqual(sorted(here), sorted([name for name, _, _ in listed()] + list(BASES)))

    def test_direct_bases(self):
        for name, base, _ in listed():
            self.assertEqual(getattr(errors, name).__bases__, (base,), name)
        for name, base in BASES.items():
            self.assertEqual(getattr(errors, name).__bases__, (base,), name)

    def test_no_other_class_is_a_subclass_of_another_one(self):
        classes = [getattr(errors, name) for name, _, _ in listed()]
        for one in classes:
            for other in classes:
                self.assertEqual(issubclass(one, other), one is other)

    def test_defined_in_their_file(self):
        for name in [name for name, _, _ in listed()] + list(BASES):
            self.assertEqual(getattr(errors, name).__module__, "creepclocks.errors")

    def test_parameters_by_position_and_by_name(self):
        for name, _, names in listed():
            values = [object() for _ in names]
            for error in (getattr(errors, name)(*values), getattr(errors, name)(**dict(zip(names, values)))):
                for key, value in zip(names, values):
                    self.assertIs(getattr(error, key), value, (name, key))
                self.assertEqual(error.code, name)

    def test_wrong_numbers_of_arguments(self):
        for name, _, names in listed():
            with self.assertRaises(TypeError):
                getattr(errors, name)(*[1 for _ in range(len(names) + 1)])
            if names:
                with self.assertRaises(TypeError):
                    getattr(errors, name)()

    def test_any_value_is_kept_as_it_is(self):
        held = [1, [2, "x"]]
        values = [None, True, False, 0, 7, 10 ** 5000, "text", (1, 2), [], held, {"a": 1},
                  Step([(1, 1), (1, 1)]), errors.CantTurn(), 1.5]
        for name, _, names in listed():
            for value in values:
                error = getattr(errors, name)(*[value for _ in names])
                for key in names:
                    self.assertIs(getattr(error, key), value)
                self.assertEqual(error.code, name)
        self.assertEqual(held, [1, [2, "x"]])

    def test_values_of_different_parameters_are_not_mixed(self):
        for name, _, names in listed():
            error = getattr(errors, name)(*range(len(names)))
            self.assertEqual([getattr(error, key) for key in names], list(range(len(names))))

    def test_base_classes_have_no_code(self):
        for name, base in BASES.items():
            error = getattr(errors, name)("words")
            self.assertFalse(hasattr(error, "code"), name)
            self.assertFalse(hasattr(getattr(errors, name), "code"), name)
            self.assertIsInstance(error, base)

    def test_raised_and_caught_by_their_bases(self):
        for name, base, names in listed():
            with self.assertRaises(base):
                raise getattr(errors, name)(*[1 for _ in names])
        self.assertEqual(caught(Step, 3), ("InvalidFraction", {"at": -1}))


if __name__ == "__main__":
    unittest.main()
