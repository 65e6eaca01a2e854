"""Seen steps: what is settled about a step while its numbers come one by one."""

from creepclocks.checks import HIGHEST_ORDER, LOWEST_ORDER, check_number
from creepclocks.errors import OrderTooLow, TooMany
from creepclocks.likeness import answers_of
from creepclocks.ratios import ZERO
from creepclocks.steps import Step

# In the order in which they are told.
QUESTIONS_SEEN = ("lead", "kind", "height", "flat", "strength", "log")
UNSETTLED_KINDS = ("nothing", "still")
LOGGED_KINDS = ("creep", "flip")


def settled_by(numbers):
    """The dict from the questions that are settled about a step that begins with these numbers to their values."""
    # Behind a single number a 0 settles nothing.
    step = Step(numbers + [ZERO] * (LOWEST_ORDER - len(numbers)))
    answers = answers_of(step)
    if step.kind in UNSETTLED_KINDS:
        answers["kind"] = None
    return {question: answers[question] for question in QUESTIONS_SEEN if answers[question] is not None}


def is_told(settled):
    """Whether all is settled that can be settled about a step."""
    if settled.get("kind") in LOGGED_KINDS:
        return "log" in settled
    return "kind" in settled


class Seen:
    """A seen step, whose numbers are put one by one."""

    def __init__(self):
        self._numbers = []
        self._settled = {}
        self.order = 0
        self.kind = None

    def put(self, number):
        """Puts a number behind the others, and returns the list of the questions that are settled by it."""
        check_number(number)
        if self.order == HIGHEST_ORDER:
            raise TooMany(HIGHEST_ORDER)
        numbers = self._numbers + [number]
        settled = dict(self._settled)
        # The numbers behind the last answer are not looked at, since this takes long.
        answers = {} if is_told(settled) else settled_by(numbers)
        found = [question for question in answers if question not in settled]
        for question in found:
            settled[question] = answers[question]
        self._take(numbers, settled)
        return found

    def numbers(self):
        """The list of the numbers."""
        return list(self._numbers)

    def settled(self):
        """The dict from the settled questions, in the order in which they were told, to their values."""
        return dict(self._settled)

    def shown(self):
        """The step with the numbers so far."""
        if self.order < LOWEST_ORDER:
            raise OrderTooLow(self.order, LOWEST_ORDER)
        return Step(self._numbers)

    def twin(self):
        """An independent seen step in the same state."""
        seen = Seen()
        seen._take(self._numbers, self._settled)
        return seen

    def _take(self, numbers, settled):
        """Takes a new state."""
        self._numbers = numbers
        self._settled = settled
        self.order = len(numbers)
        self.kind = settled.get("kind")

    def __repr__(self):
        return f"Seen({self.order} numbers)"
