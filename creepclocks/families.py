"""Families: all renamers between two alike steps."""

from creepclocks.checks import check_orders, checked_top
from creepclocks.errors import InvalidLead, InvalidTime, NotAlike, NotInFamily
from creepclocks.likeness import unlike
from creepclocks.papers import Paper, unequal_sides
from creepclocks.ratios import (
    MINUS_ONE, ONE, ZERO, difference_of, is_fraction, power_of, product_of, quotient_of, root_of, sum_of,
)
from creepclocks.steps import Step, first_difference
from creepclocks.straight import straight_form


class Renaming(Paper):
    """The claim that renamer leads from one to other."""

    def __init__(self, one, other, renamer):
        Paper.__init__(self, "renaming")
        self.one = one
        self.other = other
        self.renamer = renamer

    def wrong(self):
        """None if the paper is right, otherwise the pair (check, place) of its first check that fails."""
        if not self.one.order == self.other.order == self.renamer.order:
            return (0, 0)
        if self.renamer.lead == ZERO:
            return (1, 1)
        return unequal_sides(2, self.renamer * self.one, self.other * self.renamer)


def plain_in(form):
    """The plain creep in a straight form, or still if there is none."""
    if form.kind == "creep":
        return form
    if form.kind == "flip":
        return Step.scaling(MINUS_ONE, form.order) * form
    return Step.still(form.order)


def degree_in(form):
    """The flat of the plain creep in a straight form, the height less 1 of a crush, None for other forms."""
    return form.height - 1 if form.kind == "crush" else plain_in(form).flat


def strength_in(form):
    """The strength of the plain creep in a straight form, or of a crush."""
    return form.strength if form.kind == "crush" else plain_in(form).strength


def top_places(form, degree):
    """The places at which renamers from a straight form to itself are free."""
    if form.kind == "stretch":
        return []
    first = 2 if degree is None else form.order - degree + 1
    places = range(first, form.order + 1)
    return [place for place in places if place % 2 == 1 or form.kind != "flip"]


class Family:
    """The family of two alike steps."""

    def __init__(self, one, other):
        paper = unlike(one, other)
        if paper is not None:
            raise NotAlike(paper)
        self.one = one
        self.other = other
        self.order = one.order
        form, self._first = straight_form(one)
        other_form, self._second = straight_form(other)
        degree = degree_in(form)
        self._scale = ONE
        self.leads = "any"
        if degree is not None:
            self._scale = root_of(quotient_of(strength_in(form), strength_in(other_form)), degree)
            self.leads = "sign" if degree % 2 == 0 else "one"
        self._plain = plain_in(form)
        self.timed = self._plain.kind == "creep" and 2 * degree < self.order
        self._places = top_places(form, degree)
        self.size = len(self._places) + int(self.timed) + int(self.leads == "any")

    def places(self):
        """The ascending list of the places of the top."""
        return list(self._places)

    def scale(self):
        """The scale."""
        return self._scale

    def member(self, *, lead=(1, 1), time=None, top=None):
        """The member with a lead, a time and a top."""
        if not self._may_lead(lead):
            raise InvalidLead(lead)
        if time is not None and not (self.timed and is_fraction(time)):
            raise InvalidTime(time)
        numbers = self._untopped(lead, ZERO if time is None else time)
        if top is not None:
            for place, number in zip(self._places, checked_top(top, len(self._places))):
                numbers[place - 1] = sum_of(numbers[place - 1], number)
        return ~self._second * Step.scaling(self._scale, self.order) * Step(numbers) * self._first

    def base(self):
        """The member without further choices."""
        return self.member()

    def read(self, step):
        """The triple of the lead, the time and the top of a member."""
        check_orders(self, step)
        if step.lead == ZERO:
            raise NotInFamily(1)
        place = first_difference(step * self.one, self.other * step)
        if place is not None:
            raise NotInFamily(place)
        shrunk = Step.scaling(quotient_of(ONE, self._scale), self.order)
        inner = (shrunk * self._second * step * ~self._first).numbers()
        lead, time = inner[0], None
        if self.timed:
            # The lead is 1 or -1 here, and the top is free only behind this place.
            flat = self._plain.flat
            time = quotient_of(inner[flat], product_of(power_of(lead, flat + 1), self._plain.strength))
        numbers = self._untopped(lead, ZERO if time is None else time)
        return (lead, time, [difference_of(inner[place - 1], numbers[place - 1]) for place in self._places])

    def _may_lead(self, lead):
        """Whether any value may be the lead."""
        if not is_fraction(lead) or lead == ZERO:
            return False
        return self.leads == "any" or lead == ONE or (self.leads == "sign" and lead == MINUS_ONE)

    def _untopped(self, lead, time):
        """The numbers of the renamer from the straight form to itself without a top."""
        return (self._plain.power(time) * Step.scaling(lead, self.order)).numbers()

    def __contains__(self, x):
        if not isinstance(x, Step) or x.order != self.order or x.lead == ZERO:
            return False
        return x * self.one == self.other * x

    def __repr__(self):
        return f"Family({self.size} free)"
