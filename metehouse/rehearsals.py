"""Rehearsals: deeds that are tried, and taken back whatever happens."""


class Rehearsal:
    """A block at whose end the house is as it was at its beginning."""

    def __init__(self, house):
        self.house = house
        self.before = None

    def __enter__(self):
        self.before = self.house.twin()
        return self.house

    def __exit__(self, kind, value, trace):
        self.house._limit = self.before._limit
        self.house._contents = self.before._contents
        self.house._done = self.before._done
        self.house._undone = self.before._undone


def attempt(house, act):
    """What the function returns for the house, which is afterwards as it was."""
    with Rehearsal(house) as held:
        return act(held)
