"""Instruments: what tells something about the levels of quantities."""

from metehouse.claims import Below, Either, within
from metehouse.errors import BadName, BadNumber, BadReading
from metehouse.forms import all_names, is_word

MOST_MOMENTS = 4


def is_whole(told):
    """True if the telling is an integer; True and False are none."""
    return isinstance(told, int) and not isinstance(told, bool)


class Instrument:
    """The base class of all instruments; an instrument never changes.

    Each kind of instrument has, besides what the document names, `watched()`, the list of
    its forms, and `written()`, its written form.
    """

    def __init__(self, name):
        if not is_word(name):
            raise BadName(name)
        self.name = name

    def says(self, told):
        """The claim that a telling makes."""
        raise NotImplementedError("each kind of instrument has its own tellings")

    def names(self):
        """The quantities of all forms, ascending."""
        return all_names(self.watched())

    def tellings(self):
        """The list of all tellings, if exactly one of them is true in each world; otherwise empty."""
        return []

    def watched(self):
        """The forms that the tellings speak of."""
        raise NotImplementedError("each kind of instrument has its own forms")

    def written(self):
        """The written form."""
        raise NotImplementedError("each kind of instrument has its own written form")

    def __eq__(self, other):
        return isinstance(other, Instrument) and str(self) == str(other)

    def __str__(self):
        return str(self.written())


class LateGauge(Instrument):
    """A gauge that shows the level at one of several moments, and does not tell at which."""

    def __init__(self, name, *forms, radius=0):
        super().__init__(name)
        if not 1 <= len(forms) <= MOST_MOMENTS:
            raise BadNumber(len(forms))
        if radius < 0:
            raise BadNumber(radius)
        self.forms = forms
        self.radius = radius

    def says(self, told):
        """The number is at most the radius from one of the forms."""
        if not is_whole(told):
            raise BadReading(self.name, told)
        claims = [within(form, told - self.radius, told + self.radius) for form in self.forms]
        return Either(*claims)

    def watched(self):
        """The forms of all moments."""
        return list(self.forms)

    def written(self):
        """The written form."""
        forms = " ; ".join([str(form) for form in self.forms])
        return f"late {self.name} {self.radius} : {forms}"


class Balance(Instrument):
    """It tells which of two forms is greater, by more than dead."""

    TELLINGS = ("left", "even", "right")

    def __init__(self, name, left, right, *, dead=0):
        super().__init__(name)
        if dead < 0:
            raise BadNumber(dead)
        self.left = left
        self.right = right
        self.dead = dead

    def says(self, told):
        """One of the forms is greater, or they are even."""
        if told not in Balance.TELLINGS:
            raise BadReading(self.name, told)
        if told == "left":
            return Below(self.right - self.left, -self.dead)
        if told == "right":
            return Below(self.left - self.right, -self.dead)
        return within(self.left - self.right, -self.dead, self.dead)

    def tellings(self):
        """The three tellings."""
        return list(Balance.TELLINGS)

    def watched(self):
        """Both forms."""
        return [self.left, self.right]

    def written(self):
        """The written form."""
        return f"balance {self.name} {self.dead} : {self.left} ; {self.right}"
