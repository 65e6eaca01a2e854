"""Replies: what a desk answers to lines.

Each function for a line has the desk and the list of the words of the line, of which there are as many as it needs.
"""

from creepclocks.clocks import clock_of
from creepclocks.crews import Crew
from creepclocks.errors import InvalidNumber
from creepclocks.likeness import three_numbers, unlike
from creepclocks.outlooks import outlook
from creepclocks.ratios import MOST_POWER, fraction_text, is_between, read_fraction
from creepclocks.reading import read_step
from creepclocks.steps import trade


def steps_of(desk, words):
    """The list of the steps of the desk for the words behind the first one."""
    return [desk.held(word) for word in words[1:]]


def yes_or_no(value):
    return "yes" if value else "no"


def reply_names(desk, words):
    names = desk.names()
    return " ".join(names) if len(names) > 0 else "none"


def reply_show(desk, words):
    return desk.held(words[1]).text()


def reply_kind(desk, words):
    return desk.held(words[1]).kind


def reply_number(desk, words):
    flat, strength, log = three_numbers(desk.held(words[1]))
    if words[0] == "flat":
        return "none" if flat is None else str(flat)
    value = strength if words[0] == "strength" else log
    return "none" if value is None else fraction_text(value)


def reply_clock(desk, words):
    return clock_of(desk.held(words[1])).text()


def reply_half(desk, words):
    return desk.held(words[1]).power((1, 2)).text()


def reply_alike(desk, words):
    one, other = steps_of(desk, words)
    paper = unlike(one, other)
    return "yes" if paper is None else paper.question


def reply_trade(desk, words):
    one, other = steps_of(desk, words)
    return yes_or_no(trade(one, other))


def reply_outlook(desk, words):
    one, other = steps_of(desk, words)
    return outlook(one, other)


def reply_span(desk, words):
    steps = steps_of(desk, words)
    return str(Crew(desk.order, *steps).dimension)


def reply_in(desk, words):
    step, *others = steps_of(desk, words)
    return yes_or_no(step in Crew(desk.order, *others))


def reply_put(desk, words):
    desk.do(("put", words[1], read_step(" ".join(words[2:]))))
    return "done"


def reply_power(desk, words):
    t = read_fraction(words[3])
    if t is None:
        raise InvalidNumber(words[3])
    upper, lower = t
    whole = lower == 1 and is_between(upper, -MOST_POWER, MOST_POWER)
    desk.do(("power", words[1], words[2], upper if whole else t))
    return "done"


def reply_deed(desk, words):
    desk.do(tuple(words))
    return "done"


def reply_undo(desk, words):
    desk.undo()
    return "done"


def reply_redo(desk, words):
    desk.redo()
    return "done"


REPLIES = {
    "names": reply_names, "show": reply_show, "kind": reply_kind, "flat": reply_number, "strength": reply_number,
    "log": reply_number, "clock": reply_clock, "half": reply_half, "alike": reply_alike, "trade": reply_trade,
    "outlook": reply_outlook, "span": reply_span, "in": reply_in, "put": reply_put, "behind": reply_deed,
    "back": reply_deed, "power": reply_power, "rename": reply_deed, "part": reply_deed, "drop": reply_deed,
    "undo": reply_undo, "redo": reply_redo,
}
# How many words a line with this first word has.
EXACTLY = {
    "names": 1, "show": 2, "kind": 2, "flat": 2, "strength": 2, "log": 2, "clock": 2, "half": 2, "alike": 3,
    "trade": 3, "outlook": 3, "behind": 4, "back": 3, "power": 4, "rename": 4, "part": 4, "drop": 2, "undo": 1,
    "redo": 1,
}
AT_LEAST = {"span": 2, "in": 3, "put": 3}


def is_line(line, words):
    """Whether a line with these words is one that a desk knows."""
    if "\n" in line:
        return False
    if words[0] in AT_LEAST:
        return len(words) >= AT_LEAST[words[0]]
    return words[0] in EXACTLY and len(words) == EXACTLY[words[0]]


def reply(desk, line):
    """The answer of a desk to a line, unless an error is raised."""
    words = line.split(" ")
    if not is_line(line, words):
        return "unknown"
    action = REPLIES[words[0]]
    return action(desk, words)
