"""Papers: claims that can be checked by putting in."""


class Paper:
    """The base class of all papers; a paper of this class itself claims nothing, so it is right."""

    def __init__(self, title):
        self.title = title

    def wrong(self):
        """None if the paper is right, otherwise the pair (check, place) of its first check that fails."""
        return None
