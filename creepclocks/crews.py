"""Crews: lists of slow steps, and all products of powers of them."""

from creepclocks.checks import check_order, check_orders, check_slow_of, check_turnable
from creepclocks.drifts import Drift, drift_of
from creepclocks.errors import InCrew, NotInCrew, TooMany, UnknownStep
from creepclocks.papers import Paper
from creepclocks.ratios import ONE, ZERO, is_between, negative_of
from creepclocks.series import differences_of, dot, is_zero, least_place, mixed
from creepclocks.stairs import fronts_of, is_new, left_over, lines_of, makings_of, with_list
from creepclocks.steps import Step

MOST_STEPS = 8


def check_many(many):
    """Refuses so many steps for one crew."""
    if many > MOST_STEPS:
        raise TooMany(MOST_STEPS)


def span_of(drifts):
    """The makers of the span of drifts, their names, and the stairs that have taken the makers."""
    makers, names, stairs = [], [], []
    further = [(("step", at), drift) for at, drift in enumerate(drifts)]
    p = 0
    while len(further) > 0:
        for name, drift in further:
            if is_new(stairs, drift.numbers()):
                makers.append(drift)
                names.append(name)
                stairs = with_list(stairs, drift.numbers())
        p += 1
        further = [(("bracket", p, q), makers[p] ^ makers[q]) for q in range(p)] if p < len(makers) else []
    return (makers, names, stairs)


def next_layer(drifts, layer):
    """The basis of the sums of multiples of the brackets of drifts with those of a layer."""
    stairs = []
    for drift in drifts:
        for other in layer:
            bracket = drift ^ other
            if is_new(stairs, bracket.numbers()):
                stairs = with_list(stairs, bracket.numbers())
    return drifts_of(stairs)


def drifts_of(stairs):
    """The list of the drifts that are the lines of stairs."""
    return [Drift(line) for line in lines_of(stairs)]


class Crew:
    """A crew, which changes by `enlist` and `strike`."""

    def __init__(self, order, *steps):
        check_order(order)
        check_many(len(steps))
        for step in steps:
            check_slow_of(order, step)
        self.order = order
        self._renew(list(steps))

    def steps(self):
        """The list of the steps."""
        return list(self._steps)

    def enlist(self, step):
        """Puts a step behind the others."""
        check_many(self.size + 1)
        check_slow_of(self.order, step)
        self._renew(self._steps + [step])

    def strike(self, at):
        """Takes the step with an index away."""
        if not is_between(at, 0, self.size - 1):
            raise UnknownStep(at)
        self._renew(self._steps[:at] + self._steps[at + 1:])

    def makers(self):
        """The list of the makers of the span."""
        return list(self._makers)

    def names(self):
        """The list of the tuples that tell what the makers are."""
        return list(self._names)

    def basis(self):
        """The list of the drifts of the basis of the span."""
        return drifts_of(self._stairs)

    def recipe(self, step):
        """The list of the factors by which the makers give the drift of a step in the crew."""
        check_slow_of(self.order, step)
        numbers = drift_of(step).numbers()
        rest = left_over(self._stairs, numbers)
        if not is_zero(rest):
            raise NotInCrew(self._barred(step, rest))
        return makings_of(self._stairs, numbers)

    def bar(self, step):
        """The paper that bars a step that is not in the crew."""
        check_slow_of(self.order, step)
        rest = left_over(self._stairs, drift_of(step).numbers())
        if is_zero(rest):
            raise InCrew()
        return self._barred(step, rest)

    def holds(self, crew):
        """Whether all that is in another crew is in this one."""
        check_orders(self, crew)
        return not any([is_new(self._stairs, drift.numbers()) for drift in crew.basis()])

    def layers(self):
        """The list of the bases of the layers that have more than the drift 0."""
        # All drifts of the span are brackets of these with one another, so these are enough for each layer.
        leads = [maker for name, maker in zip(self._names, self._makers) if name[0] == "step"]
        found = []
        layer = self.basis()
        while len(layer) > 0:
            found.append(layer)
            layer = next_layer(leads, layer)
        return found

    def renamed(self, step):
        """A new crew of the renamed steps."""
        check_orders(self, step)
        check_turnable(step)
        steps = [mate.renamed(step) for mate in self._steps]
        return Crew(self.order, *steps)

    def twin(self):
        """An independent crew in the same state."""
        crew = Crew(self.order)
        crew._follow(self)
        return crew

    def _renew(self, steps):
        """Takes other steps, and works out all that is told of them."""
        self._makers, self._names, self._stairs = span_of([drift_of(step) for step in steps])
        self._steps = steps
        self.size = len(steps)
        self.dimension = len(self._makers)

    def _follow(self, crew):
        """Takes the state of another crew of the same order."""
        self._makers, self._names, self._stairs = crew._makers, crew._names, crew._stairs
        self._steps = crew._steps
        self.size = crew.size
        self.dimension = crew.dimension

    def _barred(self, step, rest):
        """The paper that bars a step by what is left of its drift."""
        place = least_place(rest, 2)
        weights = [ZERO] * len(rest)
        weights[place - 2] = ONE
        for front, line in zip(fronts_of(self._stairs), lines_of(self._stairs)):
            weights[front] = negative_of(line[place - 2])
        return Barred(self, step, place, weights)

    def __contains__(self, x):
        if not isinstance(x, Step) or x.order != self.order or x.lead != ONE:
            return False
        return not is_new(self._stairs, drift_of(x).numbers())

    def __repr__(self):
        return f"Crew({self.size} steps)"


class Inside(Paper):
    """The claim that the makers of a crew, multiplied by shares and added, are the drift of step."""

    def __init__(self, crew, step, shares):
        Paper.__init__(self, "inside")
        self.crew = crew.twin()
        self.step = step
        self._shares = list(shares)

    def shares(self):
        """The list of the shares."""
        return list(self._shares)

    def wrong(self):
        """None if the paper is right, otherwise the pair (check, place) of its first check that fails."""
        if self.crew.order != self.step.order:
            return (0, 0)
        if self.step.lead != ONE:
            return (1, 1)
        if len(self._shares) != self.crew.dimension:
            return (2, 0)
        wanted = drift_of(self.step).numbers()
        # The drift 0 stands for the sum of no makers.
        makers = [[ZERO] * len(wanted)] + [maker.numbers() for maker in self.crew.makers()]
        place = least_place(differences_of(mixed([ONE] + self._shares, makers), wanted), 2)
        return None if place is None else (3, place)


class Barred(Paper):
    """The claim that weights, which weigh 0 on the whole span of a crew, do not weigh 0 on the drift of step."""

    def __init__(self, crew, step, place, weights):
        Paper.__init__(self, "barred")
        self.crew = crew.twin()
        self.step = step
        self.place = place
        self._weights = list(weights)

    def weights(self):
        """The list of the weights for the places 2 to the order."""
        return list(self._weights)

    def wrong(self):
        """None if the paper is right, otherwise the pair (check, place) of its first check that fails."""
        if self.crew.order != self.step.order:
            return (0, 0)
        if self.step.lead != ONE:
            return (1, 1)
        if len(self._weights) != self.crew.order - 1:
            return (2, 0)
        for drift in self.crew.basis():
            if self.barred(drift) != ZERO:
                return (3, drift.flat + 1)
        return (4, self.place) if self.barred(drift_of(self.step)) == ZERO else None

    def barred(self, drift):
        """The fraction that a drift weighs."""
        check_orders(self.crew, drift)
        return dot(self._weights, drift.numbers())
