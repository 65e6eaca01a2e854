"""The names of the interface, each where the document lists it, with the parameters that it lists."""

import importlib
import inspect
import unittest

FUNCTIONS = {
    "ratios": "is_fraction(value) ratio(upper, lower) sum_of(one, other) difference_of(one, other) "
              "product_of(one, other) quotient_of(one, other) power_of(value, n) is_below(one, other) "
              "root_of(value, n) fraction_text(value) read_fraction(text)",
    "rows": "reciprocal(row) row_power(row, t) row_log(row)",
    "steps": "first_difference(one, other) trade(one, other) exchange(one, other) orbit(step, many)",
    "tables": "table_of(step) step_of_table(table) table_power(table, t) table_log(table)",
    "drifts": "drift_of(step) flow_of(drift, t=(1, 1)) flow_polynomials(drift) time_between(one, other) "
              "renamed_drift(drift, step) joined(first, *others)",
    "reading": "read_row(text) read_step(text) read_drift(text)",
    "partings": "parted(step) is_pure(step) bare_flip(numbers, order)",
    "clocks": "gain(tally, creep) along(row, creep) share(row, creep) clock_of(creep) creep_of(tally) "
              "places_sum(row, step, many)",
    "likeness": "three_numbers(step) answer(step, question) unlike(one, other) is_alike(one, other)",
    "straight": "plain_creep(order, flat, strength, log) straight_form(step)",
    "folds": "fold(step, times) unfold(step, times)",
    "farrows": "increase(step, far) far_of(creep) creep_of_far(far) put_over(step, far) led_by(creep, step)",
    "words": "is_name(value) is_word(value) worked_out(word, steps, *, order) sums(words, unknown)",
    "solving": "solve(words, *, unknown, order, given=None) solved_places(words, *, unknown, order, given=None)",
    "outlooks": "outlook(one, other) wanted_order(one, other) goings_on(one, other) trade_on(one, other)",
    "looker": "first_wrong(papers)",
    "desktexts": "write_desk(desk) read_desk(text)",
}
# The class with its own parameters first, and then its methods.
CLASSES = {
    "rows": ["Row(numbers) numbers() number(place) __add__(other) __sub__(other) __mul__(other) __neg__() scaled(t) "
             "cut(order) behind(step) text() __str__() __eq__(other) __len__() __repr__()"],
    "steps": ["Step(numbers) numbers() number(place) __mul__(other) __invert__() power(t) renamed(step) cut(order) "
              "gone_on(numbers) as_row() text() __str__() __eq__(other) __len__() __repr__()"],
    "tables": ["Table(lines) lines() power_line(line) number(line, place) __mul__(other) __eq__(other) __len__() "
               "__repr__()"],
    "drifts": ["Drift(numbers) numbers() number(place) __add__(other) __sub__(other) __xor__(other) __neg__() "
               "scaled(t) moved(row) text() __str__() __eq__(other) __len__() __repr__()"],
    "papers": ["Paper(title) wrong()"],
    "partings": ["Parting(step, pure, slow, straightener) wrong()"],
    "tallies": ["Tally(flat, numbers) numbers() number(place) __add__(other) __sub__(other) __neg__() scaled(t) "
                "behind(step) text() __str__() __eq__(other) __len__() __repr__()"],
    "clocks": ["Summed(creep, row, tally) wrong()"],
    "likeness": ["Unlike(one, other, question, told) wrong()"],
    "families": ["Renaming(one, other, renamer) wrong()",
                 "Family(one, other) places() scale() member(*, lead=(1, 1), time=None, top=None) base() read(step) "
                 "__contains__(x) __repr__()"],
    "roots": ["Rooted(step, times, root) wrong()",
              "Roots(step, times) single() places() flip(numbers) __contains__(x) __repr__()"],
    "farrows": ["Far(flat, strength, polynomials) polynomials() moved_on(b) growth() __eq__(other) __len__() "
                "__repr__()", "Reached(creep, far) wrong()"],
    "crews": ["Crew(order, *steps) steps() enlist(step) strike(at) makers() basis() names() recipe(step) bar(step) "
              "__contains__(x) holds(crew) layers() renamed(step) twin() __repr__()",
              "Inside(crew, step, shares) shares() wrong()",
              "Barred(crew, step, place, weights) weights() wrong() barred(drift)"],
    "solving": ["Solver(words, *, unknown, order, given=None) unknown() advance() finish() numbers(name) answer(name) "
                "twin() __repr__()", "Answered(words, steps, order) words() steps() wrong()"],
    "seen": ["Seen() put(number) numbers() settled() shown() twin() __repr__()"],
    "desk": ["Desk(order=6) names() held(name) do(*deeds) undo() redo() history() tried(*deeds) say(line) "
             "__call__(line) journal() text() twin() __eq__(other) __repr__()"],
}
STATIC = {"Row": "constant(value, order)", "Step": "still(order) scaling(lead, order)"}
PAPERS = ["Parting", "Summed", "Unlike", "Renaming", "Rooted", "Reached", "Inside", "Barred", "Answered"]
ERRORS = {
    "CreepError": "InvalidNumber(value) InvalidFraction(at) InvalidOrder(value) OrderTooLow(have, wanted) "
                  "UnlikeOrders(one, other) InvalidPlace(value) InvalidPower(value) InvalidTimes(value) "
                  "InvalidText(at) InvalidTable(at) CantTurn() NotSlow(first) IsStill(have) NotOne(first) "
                  "NotUnit(line, place) NotATable(line, place) NotAFlow(place) InvalidFlat(value) NotAClock() "
                  "UnlikeFlats(one, other) NotAlike(paper) InvalidLead(value) InvalidTime(value) InvalidTop(at) "
                  "NotInFamily(place) NoFlips() "
                  "NotFolded(value) InvalidFar(at) NotFar(place) NotLed(first) NotInCrew(paper) InCrew() "
                  "InvalidName(value) InvalidNames(at) InvalidWord(at) SameName(name) NotOpen() InvalidStep() "
                  "InvalidPaper(at) InvalidDeed(at) InvalidLine(line) TooMany(most) Solved()",
    "NoAnswer": "DividedByZero() Tied(ties) NotSquare(equations, unknowns)",
    "Missing": "UnknownName(name) UnknownStep(at)",
}


def module(name):
    return importlib.import_module(f"creepclocks.{name}")


def parts(text):
    """The pairs of a name and its parameters, as they are written."""
    found = []
    for part in text.replace(") ", ")\n").split("\n"):
        name, bracket, rest = part.partition("(")
        found.append((name, bracket + rest))
    return found


def parameters(value):
    """The parameters as they are written, without self."""
    named = str(inspect.signature(value))
    return named.replace("(self, ", "(").replace("(self)", "()")


class InterfaceTest(unittest.TestCase):
    def test_functions(self):
        for name, text in FUNCTIONS.items():
            for word, wanted in parts(text):
                value = vars(module(name))[word]
                self.assertTrue(inspect.isfunction(value), word)
                self.assertEqual((value.__module__, parameters(value)), (f"creepclocks.{name}", wanted), word)

    def test_classes(self):
        for name, texts in CLASSES.items():
            for text in texts:
                (word, wanted), *methods = parts(text)
                made = vars(module(name))[word]
                self.assertTrue(inspect.isclass(made), word)
                self.assertEqual(made.__module__, f"creepclocks.{name}")
                self.assertEqual(parameters(vars(made)["__init__"]), wanted, word)
                for method, its in methods:
                    self.assertEqual(parameters(vars(made)[method]), its, (word, method))

    def test_static_methods(self):
        for word, name in (("Row", "rows"), ("Step", "steps")):
            for method, wanted in parts(STATIC[word]):
                value = vars(vars(module(name))[word])[method]
                self.assertIsInstance(value, staticmethod)
                self.assertEqual(parameters(value.__func__), wanted)

    def test_papers(self):
        base = module("papers").Paper
        found = []
        for name, texts in CLASSES.items():
            for text in texts:
                made = vars(module(name))[parts(text)[0][0]]
                if made.__bases__ == (base,):
                    found.append(made.__name__)
                else:
                    self.assertEqual(made.__bases__, (object,))
        self.assertEqual(sorted(found), sorted(PAPERS))

    def test_generators(self):
        for name, word in (("steps", "orbit"), ("solving", "solved_places")):
            self.assertTrue(inspect.isgeneratorfunction(vars(module(name))[word]))

    def test_errors(self):
        errors = module("errors")
        bases = {"CreepError": ValueError, "NoAnswer": ArithmeticError, "Missing": LookupError}
        listed = ["NothingLeft"]
        for name, base in bases.items():
            made = vars(errors)[name]
            self.assertEqual(made.__bases__, (base,))
            listed.append(name)
            for word, wanted in parts(ERRORS[name]):
                error = vars(errors)[word]
                listed.append(word)
                self.assertEqual((error.__bases__, parameters(vars(error)["__init__"])), ((made,), wanted), word)
                names = [part for part in wanted.strip("()").split(", ") if part]
                held = error(*[[at] for at in range(len(names))])
                self.assertEqual([getattr(held, part) for part in names], [[at] for at in range(len(names))])
                self.assertEqual(held.code, word)
        self.assertEqual((errors.NothingLeft.__bases__, errors.NothingLeft().code), ((IndexError,), "NothingLeft"))
        self.assertEqual(sorted(listed), sorted(word for word in vars(errors) if not word.startswith("_")))


if __name__ == "__main__":
    unittest.main()
