"""Deeds: what changes the steps of a desk.

Each function for a deed has the order of the desk, the dict of its steps and the items of the deed behind its word. It
returns the dict from the names that get a new step to these, with None for a name that is taken away.
"""

from creepclocks.errors import InvalidDeed, InvalidName, InvalidStep, SameName, TooMany, UnknownName, UnlikeOrders
from creepclocks.partings import parted
from creepclocks.steps import Step
from creepclocks.words import is_name

MOST_NAMES = 40


def check_name(name):
    if not is_name(name):
        raise InvalidName(name)


def held_step(held, name):
    """The step of a name; any value may be asked for."""
    if not is_name(name) or name not in held:
        raise UnknownName(name)
    return held[name]


def put(order, held, name, step):
    check_name(name)
    if not isinstance(step, Step):
        raise InvalidStep()
    if step.order != order:
        raise UnlikeOrders(order, step.order)
    return {name: step}


def behind(order, held, name, one, other):
    check_name(name)
    first = held_step(held, one)
    return {name: first * held_step(held, other)}


def turn_back(order, held, name, one):
    check_name(name)
    return {name: ~held_step(held, one)}


def raise_power(order, held, name, one, t):
    check_name(name)
    return {name: held_step(held, one).power(t)}


def rename(order, held, name, one, by):
    check_name(name)
    first = held_step(held, one)
    return {name: first.renamed(held_step(held, by))}


def part(order, held, name, other, one):
    check_name(name)
    check_name(other)
    if name == other:
        raise SameName(name)
    paper = parted(held_step(held, one))
    return {name: paper.pure, other: paper.slow}


def drop(order, held, name):
    held_step(held, name)
    return {name: None}


ACTIONS = {
    "put": put, "behind": behind, "back": turn_back, "power": raise_power, "rename": rename, "part": part,
    "drop": drop,
}
# How many items a deed with this word has.
ITEMS = {"put": 3, "behind": 4, "back": 3, "power": 4, "rename": 4, "part": 4, "drop": 2}


def is_deed(value):
    """Whether any value has the form of a deed."""
    if not isinstance(value, tuple) or len(value) == 0 or not isinstance(value[0], str):
        return False
    return value[0] in ITEMS and len(value) == ITEMS[value[0]]


def check_deeds(deeds):
    for at, deed in enumerate(deeds):
        if not is_deed(deed):
            raise InvalidDeed(at)


def held_behind(order, held, deed):
    """A new dict of the steps behind a deed."""
    action = ACTIONS[deed[0]]
    given = deed[1:]
    changes = action(order, held, *given)
    found = dict(held)
    for name, step in changes.items():
        if step is None:
            del found[name]
        else:
            found[name] = step
    if len(found) > MOST_NAMES:
        raise TooMany(MOST_NAMES)
    return found
