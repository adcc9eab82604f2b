"""Runs: ladders that are tried again and again, and that may misread some of the tries."""

from metehouse.claims import AtMost, Below, Either
from metehouse.errors import BadNumber, BadReading, BadTries
from metehouse.ladders import Ladder


class Run(Ladder):
    """It tells a string of tries at one place, of which some may be misread."""

    def __init__(self, name, form, *, length, foot=0, table, wrong=0):
        super().__init__(name, form, length=length, foot=foot)
        if wrong < 0:
            raise BadNumber(wrong)
        self.table = table
        self.wrong = wrong

    def says(self, told):
        """The level is at most the height, or greater, as far as so few misread tries allow it."""
        if not isinstance(told, str):
            raise BadReading(self.name, told)
        try:
            self.table.word_after(told)
        except BadTries as error:
            raise BadReading(self.name, told) from error
        claims = []
        if told.count("m") <= self.wrong:
            claims.append(AtMost(self.form, self.height))
        if told.count("r") <= self.wrong:
            claims.append(Below(self.height - self.form))
        return Either(*claims)

    def tellings(self):
        """None are listed: in each world many tellings of a run are true."""
        return []

    def written(self):
        """The written form."""
        return f"run {self.name} {self.length} {self.foot} {self.wrong} : {self.form} ; {self.table}"
