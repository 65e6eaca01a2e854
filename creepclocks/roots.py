"""Roots of steps: which steps, done so many times, give a step."""

from creepclocks.checks import MOST_TIMES, check_times, check_turnable, checked_top
from creepclocks.errors import NoFlips
from creepclocks.papers import Paper, unequal_sides
from creepclocks.partings import bare_flip, parted
from creepclocks.ratios import ZERO, negative_of, root_of
from creepclocks.steps import Step
from creepclocks.straight import straight_form


class Rooted(Paper):
    """The claim that root done so many times is step."""

    def __init__(self, step, times, root):
        Paper.__init__(self, "rooted")
        self.step = step
        self.times = times
        self.root = root

    def wrong(self):
        """None if the paper is right, otherwise the pair (check, place) of its first check that fails."""
        if self.step.order != self.root.order:
            return (0, 0)
        return unequal_sides(1, self.root.power(self.times), self.step)


def lead_roots(lead, times):
    """The ascending list of the fractions whose power is a lead that is not 0."""
    root = root_of(lead, times)
    if root is None:
        return []
    return [negative_of(root), root] if times % 2 == 0 else [root]


def stretch_roots(stretch, times):
    """The roots of a stretch, by ascending leads."""
    straightener = parted(stretch).straightener
    back = ~straightener
    return [back * Step.scaling(lead, stretch.order) * straightener for lead in lead_roots(stretch.lead, times)]


def flip_roots(flip, times):
    """The roots of a flip."""
    if times % 2 == 0:
        return []
    paper = parted(flip)
    return [paper.pure * paper.slow.power((1, times))]


class Roots:
    """All roots of a turnable step that give it if they are done so many times."""

    def __init__(self, step, times):
        check_turnable(step)
        check_times(times, 1, MOST_TIMES)
        self.step = step
        self.times = times
        even_flat = step.kind == "creep" and step.flat % 2 == 0
        self.flipping = times % 2 == 0 and (step.kind == "still" or even_flat)

    def single(self):
        """The list of the roots that are not told by a choice of numbers, by ascending leads."""
        if self.step.kind == "stretch":
            return stretch_roots(self.step, self.times)
        if self.step.kind == "flip":
            return flip_roots(self.step, self.times)
        return [self.step.power((1, self.times))]

    def places(self):
        """The ascending list of the places of the flips among the roots."""
        if not self.flipping:
            return []
        order = self.step.order
        first = 2 if self.step.kind == "still" else order - self.step.flat + 1
        return [place for place in range(first, order + 1) if place % 2 == 0]

    def flip(self, numbers):
        """The flip among the roots with these numbers chosen for its places."""
        if not self.flipping:
            raise NoFlips()
        places = self.places()
        chosen = dict(zip(places, checked_top(numbers, len(places))))
        order = self.step.order
        bare = bare_flip([chosen.get(place, ZERO) for place in range(2, order + 1, 2)], order)
        form, renamer = straight_form(self.step)
        return ~renamer * bare * form.power((1, self.times)) * renamer

    def __contains__(self, x):
        return isinstance(x, Step) and x.power(self.times) == self.step

    def __repr__(self):
        return f"Roots({self.times} times)"
