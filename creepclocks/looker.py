"""Looking papers through."""

from creepclocks.checks import is_listing
from creepclocks.errors import InvalidPaper
from creepclocks.papers import Paper


def first_wrong(papers):
    """None if all papers of a list are right, otherwise the triple (index, check, place) of the first wrong one."""
    if not is_listing(papers):
        raise InvalidPaper(-1)
    for at, paper in enumerate(papers):
        if not isinstance(paper, Paper):
            raise InvalidPaper(at)
    for at, paper in enumerate(papers):
        found = paper.wrong()
        if found is not None:
            check, place = found
            return (at, check, place)
    return None
