"""Ladders: they reach a height at a wall, or miss it."""

from math import isqrt

from metehouse.claims import AtMost, Below
from metehouse.errors import BadNumber, BadReading
from metehouse.instruments import Instrument


def reach(length, foot=0):
    """The height that a ladder reaches whose foot stands so far from the wall, -1 if it cannot touch it."""
    if length < 0:
        raise BadNumber(length)
    if foot < 0:
        raise BadNumber(foot)
    if foot > length:
        return -1
    return isqrt(length * length - foot * foot)


def farthest(length, height):
    """The greatest foot from which the ladder reaches the height, -1 if there is none."""
    if length < 0:
        raise BadNumber(length)
    if height > length:
        return -1
    return length if height < 0 else isqrt(length * length - height * height)


class Ladder(Instrument):
    """It tells whether it reaches a place whose height is the value of its form."""

    TELLINGS = ("reached", "missed")

    def __init__(self, name, form, *, length, foot=0):
        super().__init__(name)
        self.height = reach(length, foot)
        self.form = form
        self.length = length
        self.foot = foot

    def says(self, told):
        """The value of the form is at most the height, or greater."""
        if told not in Ladder.TELLINGS:
            raise BadReading(self.name, told)
        if told == "reached":
            return AtMost(self.form, self.height)
        return Below(self.height - self.form)

    def tellings(self):
        """Both tellings."""
        return list(Ladder.TELLINGS)

    def watched(self):
        """The form alone."""
        return [self.form]

    def written(self):
        """The written form."""
        return f"ladder {self.name} {self.length} {self.foot} : {self.form}"
