"""Forks: they tell how far two forms are from each other, and not which one is greater."""

from metehouse.claims import Either, within
from metehouse.errors import BadNumber, BadReading
from metehouse.instruments import Instrument, is_whole


class Fork(Instrument):
    """It tells the number of beats of two forms, wrong by at most blur."""

    def __init__(self, name, first, second, *, blur=0):
        super().__init__(name)
        if blur < 0:
            raise BadNumber(blur)
        self.first = first
        self.second = second
        self.blur = blur

    def says(self, told):
        """One of the forms is greater than the other one by about the number."""
        if not is_whole(told) or told < 0:
            raise BadReading(self.name, told)
        low, high = told - self.blur, told + self.blur
        gap = self.first - self.second
        return Either(within(gap, low, high), within(-gap, low, high))

    def watched(self):
        """Both forms."""
        return [self.first, self.second]

    def written(self):
        """The written form."""
        return f"fork {self.name} {self.blur} : {self.first} ; {self.second}"
