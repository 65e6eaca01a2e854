"""Desks: steps with names, changed by deeds that can be undone, and lines that are answered."""

from creepclocks.checks import check_order
from creepclocks.deeds import check_deeds, held_behind, held_step
from creepclocks.errors import CreepError, Missing, NoAnswer, NothingLeft
from creepclocks.replies import reply


def desk_text(order, held):
    """The text of a desk with the steps in a dict."""
    lines = [f"order {order}"] + [f"{name} {held[name].text()}" for name in sorted(held)]
    return "".join([f"{line}\n" for line in lines])


class Desk:
    """A desk, which changes by its deeds."""

    def __init__(self, order=6):
        check_order(order)
        self.order = order
        self.busy = False
        self._past = []
        self._future = []
        self._journal = []
        self._take({})

    def names(self):
        """The ascending list of the names."""
        return sorted(self._held)

    def held(self, name):
        """The step of a name."""
        return held_step(self._held, name)

    def do(self, *deeds):
        """Does deeds, all of them or none."""
        held = self._behind(deeds)
        if len(deeds) > 0:
            self._past.append(self._held)
            self._future = []
            self._take(held)

    def undo(self):
        """Takes the last call with deeds back."""
        if len(self._past) == 0:
            raise NothingLeft()
        self._future.append(self._held)
        self._take(self._past.pop())

    def redo(self):
        """Does the last call that was taken back again."""
        if len(self._future) == 0:
            raise NothingLeft()
        self._past.append(self._held)
        self._take(self._future.pop())

    def history(self):
        """The pair of the numbers of calls that can be undone and redone."""
        return (len(self._past), len(self._future))

    def tried(self, *deeds):
        """The text that the desk would have behind these deeds."""
        return desk_text(self.order, self._behind(deeds))

    def say(self, line):
        """The answer to a line."""
        answer = self._answer(line)
        self._journal.append((line, answer))
        return answer

    def journal(self):
        """The list of the pairs (line, answer) of all lines that were answered."""
        return list(self._journal)

    def text(self):
        """The text of the desk."""
        return desk_text(self.order, self._held)

    def twin(self):
        """An independent desk in the same state."""
        desk = Desk(self.order)
        desk._follow(self)
        return desk

    def _take(self, held):
        """Takes other steps; the dict is never changed."""
        self._held = held
        self.size = len(held)

    def _follow(self, desk):
        """Takes the steps, the history and the journal of another desk of the same order."""
        self._past = list(desk._past)
        self._future = list(desk._future)
        self._journal = list(desk._journal)
        self._take(desk._held)

    def _behind(self, deeds):
        """The dict of the steps behind deeds."""
        self.busy = True
        try:
            check_deeds(deeds)
            held = self._held
            for deed in deeds:
                held = held_behind(self.order, held, deed)
            return held
        finally:
            self.busy = False

    def _answer(self, line):
        """The answer to a line, also if an error is raised."""
        try:
            return reply(self, line)
        except (CreepError, NoAnswer, Missing, NothingLeft) as refused:
            return f"error {refused.code}"

    def __call__(self, line):
        return self.say(line)

    def __eq__(self, other):
        return isinstance(other, Desk) and self.order == other.order and self._held == other._held

    def __repr__(self):
        return f"Desk({self.size} steps)"


def desk_with(order, held):
    """A desk with the steps in a dict, without history."""
    desk = Desk(order)
    desk._take(held)
    return desk
