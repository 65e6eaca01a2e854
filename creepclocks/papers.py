"""Papers: claims that can be checked by putting in."""

from creepclocks.steps import first_difference


class Paper:
    """The base class of all papers; a paper of this class itself claims nothing, so it is right."""

    def __init__(self, title):
        self.title = title

    def wrong(self):
        """None if the paper is right, otherwise the pair (check, place) of its first check that fails."""
        return None


def unequal_sides(check, one, other):
    """The pair of a check and the least place at which its two sides, which are steps, differ; None if they do not."""
    place = first_difference(one, other)
    return None if place is None else (check, place)
