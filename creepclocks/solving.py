"""Solving: slow steps for unknown names with which all words are still."""

from creepclocks.checks import check_order, check_slow_of, is_listing
from creepclocks.drifts import drift_of, series_of
from creepclocks.errors import (
    InvalidNames, InvalidWord, NotSquare, OrderTooLow, SameName, Solved, Tied, TooMany, UnknownName,
)
from creepclocks.papers import Paper, unequal_sides
from creepclocks.ratios import MINUS_ONE, ONE, ZERO, negative_of
from creepclocks.series import dot, flowed
from creepclocks.stairs import is_new, makings_of, with_list
from creepclocks.steps import Step
from creepclocks.words import is_name, is_word, sums, word_numbers, worked_out

MOST_UNKNOWN = 4


def check_unknown(unknown):
    """Refuses what is no list of a few different names."""
    if not is_listing(unknown):
        raise InvalidNames(-1)
    if len(unknown) > MOST_UNKNOWN:
        raise TooMany(MOST_UNKNOWN)
    for at, name in enumerate(unknown):
        if not is_name(name) or name in unknown[:at]:
            raise InvalidNames(at)


def check_words(words):
    """Refuses what is no list of words."""
    if not is_listing(words):
        raise InvalidWord(-1)
    for at, word in enumerate(words):
        if not is_word(word):
            raise InvalidWord(at)


def check_known(words, unknown, given):
    """Refuses words with a name that is neither unknown nor given, and names that are both."""
    for word in words:
        for name, _ in word:
            if name not in unknown and name not in given:
                raise UnknownName(name)
    for name in unknown:
        if name in given:
            raise SameName(name)


def turned_sums(words, unknown):
    """The lines of the inverse of the matrix of the sums."""
    if len(words) != len(unknown):
        raise NotSquare(len(words), len(unknown))
    stairs = []
    for at, line in enumerate(sums(words, unknown)):
        if not is_new(stairs, line):
            # This word has the sums of those ahead of it, multiplied by these factors and added.
            raise Tied(makings_of(stairs, line) + [MINUS_ONE] + [ZERO] * (len(words) - at - 1))
        stairs = with_list(stairs, line)
    return [making for _, making in stairs]


class Solver:
    """A solver of equations with unknown slow steps, place by place."""

    def __init__(self, words, *, unknown, order, given=None):
        check_order(order)
        check_unknown(unknown)
        check_words(words)
        self._given = {} if given is None else dict(given)
        check_known(words, unknown, self._given)
        for name in sorted(self._given):
            check_slow_of(order, self._given[name])
        self._turned = turned_sums(words, unknown)
        self._words = [list(word) for word in words]
        self._unknown = list(unknown)
        self._fields = {name: series_of(drift_of(step)) for name, step in self._given.items()}
        # Of the unknown steps only what is known of their drifts stands here, from the place 0 on.
        self._drifts = {name: [ZERO, ZERO] for name in unknown}
        self._found = {name: [ONE] for name in unknown}
        self.order = order
        self.known = 1

    def unknown(self):
        """The list of the unknown names."""
        return list(self._unknown)

    def advance(self):
        """Finds the next place, and returns the list of the numbers of the unknown steps there."""
        if self.known == self.order:
            raise Solved()
        place = self.known + 1
        fields = {name: field[:place + 1] for name, field in self._fields.items()}
        for name in self._unknown:
            fields[name] = self._drifts[name] + [ZERO]
        # A further number in the drift of an unknown step changes the words here by its sums alone.
        left = [word_numbers(word, fields, place)[place] for word in self._words]
        found = []
        for name, line in zip(self._unknown, self._turned):
            drift = self._drifts[name] + [negative_of(dot(line, left))]
            self._drifts[name] = drift
            found.append(flowed([ZERO, ONE] + [ZERO] * (place - 1), drift, ONE)[place])
            self._found[name] = self._found[name] + [found[-1]]
        self.known = place
        return found

    def finish(self):
        """Finds all places up to the order, and returns how many this were."""
        many = self.order - self.known
        for _ in range(many):
            self.advance()
        return many

    def numbers(self, name):
        """The list of the numbers of an unknown step that are known."""
        if name not in self._unknown:
            raise UnknownName(name)
        return list(self._found[name])

    def answer(self, name):
        """The step with the numbers of an unknown step that are known."""
        numbers = self.numbers(name)
        if self.known == 1:
            raise OrderTooLow(1, 2)
        return Step(numbers)

    def twin(self):
        """An independent solver in the same state."""
        solver = Solver(self._words, unknown=self._unknown, order=self.order, given=self._given)
        solver._follow(self)
        return solver

    def _follow(self, solver):
        """Takes what another solver of the same equations has found."""
        self._drifts = dict(solver._drifts)
        self._found = dict(solver._found)
        self.known = solver.known

    def __repr__(self):
        return f"Solver({self.known} of {self.order})"


class Answered(Paper):
    """The claim that all words are still with these steps."""

    def __init__(self, words, steps, order):
        Paper.__init__(self, "answered")
        self._words = [list(word) if is_listing(word) else word for word in words]
        self._steps = dict(steps)
        self.order = order

    def words(self):
        """The list of the words."""
        return [list(word) if is_listing(word) else word for word in self._words]

    def steps(self):
        """The dict from the names to the steps."""
        return dict(self._steps)

    def wrong(self):
        """None if the paper is right, otherwise the pair (check, place) of its first check that fails."""
        for at, word in enumerate(self._words):
            found = unequal_sides(at, worked_out(word, self._steps, order=self.order), Step.still(self.order))
            if found is not None:
                return found
        return None


def solve(words, *, unknown, order, given=None):
    """The dict from the unknown names to the steps with which all words are still."""
    solver = Solver(words, unknown=unknown, order=order, given=given)
    solver.finish()
    return {name: solver.answer(name) for name in solver.unknown()}


def solved_places(words, *, unknown, order, given=None):
    """The pairs of a place and the list of the numbers of the unknown steps there, one by one."""
    solver = Solver(words, unknown=unknown, order=order, given=given)
    for place in range(2, order + 1):
        yield (place, solver.advance())
