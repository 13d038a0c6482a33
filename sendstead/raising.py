"""Raising: a worth on its way outward through the frames of a run."""


class Raised(Exception):
    """A worth was raised at the node that is done."""

    def __init__(self, worth):
        Exception.__init__(self, "raised")
        self.worth = worth
