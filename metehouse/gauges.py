"""Gauges: they show an integer near the value of a form."""

from metehouse.claims import AtMost, Below, Both, within
from metehouse.errors import BadNumber, BadReading
from metehouse.instruments import Instrument, is_whole
from metehouse.pieces import Pieces


class Gauge(Instrument):
    """It shows an integer at a distance of at most radius from the value of its form."""

    def __init__(self, name, form, *, radius=0):
        super().__init__(name)
        if radius < 0:
            raise BadNumber(radius)
        self.form = form
        self.radius = radius

    def need_telling(self, told):
        """Raise BadReading if the gauge does not make this telling."""
        if not is_whole(told):
            raise BadReading(self.name, told)

    def says(self, told):
        """The value of the form is at most radius from the number."""
        self.need_telling(told)
        return within(self.form, told - self.radius, told + self.radius)

    def room(self, told):
        """The set of the values of the form for which the telling is true."""
        self.need_telling(told)
        return Pieces.between(told - self.radius, told + self.radius)

    def watched(self):
        """The form alone."""
        return [self.form]

    def written(self):
        """The written form."""
        return f"gauge {self.name} {self.radius} : {self.form}"


class CoarseGauge(Gauge):
    """A gauge that rounds down to a multiple of its step."""

    def __init__(self, name, form, *, step, radius=0):
        super().__init__(name, form, radius=radius)
        if step < 1:
            raise BadNumber(step)
        self.step = step

    def need_telling(self, told):
        """Raise BadReading if the telling is no multiple of the step."""
        if not is_whole(told) or told % self.step != 0:
            raise BadReading(self.name, told)

    def says(self, told):
        """The value of the form lies from the number to the next multiple, give or take the radius."""
        self.need_telling(told)
        low = AtMost(told - self.radius - self.form)
        return Both(low, Below(self.form - told - self.step - self.radius))

    def room(self, told):
        """The set of the values of the form for which the telling is true."""
        self.need_telling(told)
        low, high = told - self.radius, told + self.step + self.radius
        return Pieces(((low, 1), True, (high, 1), False))

    def written(self):
        """The written form."""
        return f"coarse {self.name} {self.radius} {self.step} : {self.form}"
