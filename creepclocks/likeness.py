"""Likeness: which steps are one step in other letters, and the first question that tells others apart."""

from creepclocks.checks import check_orders
from creepclocks.clocks import clock_of
from creepclocks.papers import Paper
from creepclocks.partings import slow_part
from creepclocks.ratios import quotient_of, root_of

# By the kind of the first of two steps; behind the kind the others count only if the second step has it, too.
QUESTIONS = {
    "nothing": ("kind",),
    "crush": ("kind", "height", "strength"),
    "still": ("kind",),
    "creep": ("kind", "flat", "strength", "log"),
    "flip": ("kind", "flat", "strength", "log"),
    "stretch": ("kind", "lead"),
}


class Unlike(Paper):
    """The claim that two steps are told apart by the pair of their answers to a question."""

    def __init__(self, one, other, question, told):
        Paper.__init__(self, "unlike")
        self.one = one
        self.other = other
        self.question = question
        self.told = told

    def wrong(self):
        """None if the paper is right, otherwise the pair (check, place) of its first check that fails."""
        if self.one.order != self.other.order:
            return (0, 0)
        mine, yours = answers_of(self.one), answers_of(self.other)
        if self.told != (mine[self.question], yours[self.question]):
            return (1, 0)
        return None if tells_apart(self.question, mine, yours) else (2, 0)


def three_numbers(step):
    """The triple of the flat, the strength and the log number."""
    slow = slow_part(step) if step.kind == "flip" else step
    if slow.kind != "creep":
        return (None, None, None)
    return (slow.flat, slow.strength, clock_of(slow).log)


def answers_of(step):
    """The dict from the questions to the answers of any step."""
    flat, strength, log = three_numbers(step)
    height = None
    if step.kind == "crush":
        height, strength = step.height, step.strength
    return {"kind": step.kind, "lead": step.lead, "height": height, "flat": flat, "strength": strength, "log": log}


def answer(step, question):
    """The answer of any step to a question, None where there is none."""
    return answers_of(step)[question]


def agree_by(one, other, n):
    """Whether two strengths agree by n."""
    return root_of(quotient_of(one, other), n) is not None


def tells_apart(question, mine, yours):
    """Whether two steps with these answers are told apart by a question."""
    one, other = mine[question], yours[question]
    if question != "strength" or one is None or other is None:
        return one != other
    return not agree_by(one, other, mine["flat"] if mine["height"] is None else mine["height"] - 1)


def unlike(one, other):
    """None if two steps are alike, otherwise the paper with the first question at which they are not."""
    check_orders(one, other)
    mine, yours = answers_of(one), answers_of(other)
    for question in QUESTIONS[one.kind]:
        if tells_apart(question, mine, yours):
            return Unlike(one, other, question, (mine[question], yours[question]))
    return None


def is_alike(one, other):
    """Whether two steps are alike."""
    return unlike(one, other) is None
