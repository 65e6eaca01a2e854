"""The texts of desks."""

from creepclocks.checks import HIGHEST_ORDER, LOWEST_ORDER
from creepclocks.deeds import MOST_NAMES
from creepclocks.desk import desk_with
from creepclocks.errors import InvalidLine, InvalidText
from creepclocks.reading import read_between, read_step
from creepclocks.words import is_name


def write_desk(desk):
    """The text of a desk."""
    return desk.text()


def step_in(text, order):
    """The step of this order with a text, None if there is none."""
    try:
        step = read_step(text)
    except InvalidText:
        return None
    return step if step.order == order else None


def order_in(line):
    """The order that the first line tells, None if it is no such line."""
    word, _, number = line.partition(" ")
    return read_between(number, LOWEST_ORDER, HIGHEST_ORDER) if word == "order" else None


def read_desk(text):
    """The desk with a text."""
    if not isinstance(text, str):
        raise InvalidLine(0)
    # Behind the last line feed stands an empty string, unless a line lacks its own.
    *lines, rest = text.split("\n")
    order = order_in(lines[0]) if len(lines) > 0 else None
    if order is None:
        raise InvalidLine(0)
    held, ahead = {}, ""
    for at in range(1, len(lines)):
        name, _, words = lines[at].partition(" ")
        step = step_in(words, order)
        if not is_name(name) or name <= ahead or step is None or len(held) == MOST_NAMES:
            raise InvalidLine(at)
        held[name] = step
        ahead = name
    if rest != "":
        raise InvalidLine(len(lines))
    return desk_with(order, held)
