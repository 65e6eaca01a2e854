import unittest

from creepclocks import looker
from creepclocks.clocks import Summed, clock_of
from creepclocks.crews import Barred, Crew, Inside
from creepclocks.families import Renaming
from creepclocks.farrows import Reached, far_of
from creepclocks.likeness import Unlike, unlike
from creepclocks.looker import first_wrong
from creepclocks.papers import Paper
from creepclocks.partings import Parting, parted
from creepclocks.roots import Rooted
from creepclocks.rows import Row
from creepclocks.solving import Answered
from creepclocks.steps import Step
from tests.helper import ANY_VALUES, caught, pairs, step

F = step("1 1 0 0")
G = step("1 1 1 0")


def right():
    """A right paper of each class."""
    crew = Crew(4, F)
    return [Paper("paper"), parted(step("-1 1 0 2")), Summed(F, Row.constant((1, 1), 4), clock_of(F)), unlike(F, G),
            Renaming(F, F, F), Rooted(F, 2, F.power((1, 2))), Reached(F, far_of(F)), Inside(crew, F, pairs(1)),
            crew.bar(G), Answered([[("f", (1, 1)), ("g", (-1, 1))]], {"f": F, "g": F}, 4)]


def wrong():
    """Pairs of a wrong paper and its check and place."""
    still = Step.still(4)
    return [(Parting(F, still, F, step("0 1 1 1")), (2, 1)), (Summed(F, Row.constant((2, 1), 4), clock_of(F)), (3, 0)),
            (Unlike(F, G, "flat", (1, 1)), (2, 0)), (Renaming(F, G, still), (2, 3)), (Rooted(F, 2, F), (1, 2)),
            (Reached(G, far_of(F)), (3, 3)), (Inside(Crew(4, F), F, []), (2, 0)),
            (Barred(Crew(4, F), F, 3, pairs(1, 1, 0)), (4, 3)), (Answered([[("f", (1, 1))]], {"f": F}, 4), (0, 2))]


class LookerTest(unittest.TestCase):
    def test_right(self):
        self.assertIsNone(first_wrong([]))
        self.assertIsNone(first_wrong(()))
        self.assertIsNone(first_wrong(right()))
        self.assertIsNone(first_wrong(papers=tuple(right())))

    def test_the_first_wrong_one(self):
        for paper, (check, place) in wrong():
            self.assertEqual(paper.wrong(), (check, place))
            self.assertEqual(first_wrong([paper]), (0, check, place))
            self.assertEqual(first_wrong(right() + [paper] + right()), (10, check, place))
        papers = [paper for paper, _ in wrong()]
        for at, (_, (check, place)) in enumerate(wrong()):
            self.assertEqual(first_wrong(right()[:at] + papers[at:]), (at, check, place))

    def test_own_classes(self):
        class Claim(Paper):
            def __init__(self):
                Paper.__init__(self, "claim")

            def wrong(self):
                return (7, 3)

        self.assertEqual(first_wrong([Paper("x"), Claim()]), (1, 7, 3))

    def test_invalid_papers(self):
        papers = right()
        for value in (None, 3, "", {}, papers[0], F):
            self.assertEqual(caught(first_wrong, value), ("InvalidPaper", {"at": -1}))
        for value in ANY_VALUES:
            self.assertEqual(caught(first_wrong, [value]), ("InvalidPaper", {"at": 0}))
            self.assertEqual(caught(first_wrong, papers[:3] + [value, None]), ("InvalidPaper", {"at": 3}))
        # It is refused ahead of all checks.
        self.assertEqual(caught(first_wrong, [wrong()[0][0], None]), ("InvalidPaper", {"at": 1}))
        raising = Answered([[("f", (1, 1))]], {}, 4)
        self.assertEqual(caught(first_wrong, [raising, None]), ("InvalidPaper", {"at": 1}))
        self.assertEqual(caught(first_wrong, [raising]), ("UnknownName", {"name": "f"}))
        self.assertEqual(first_wrong([wrong()[0][0], raising]), (0, 2, 1))

    def test_unchanged(self):
        papers = right()
        first_wrong(papers)
        self.assertEqual(len(papers), 10)

    def test_defined_here(self):
        self.assertEqual(first_wrong.__module__, "creepclocks.looker")
        self.assertIs(getattr(looker, "first_wrong"), first_wrong)


if __name__ == "__main__":
    unittest.main()
