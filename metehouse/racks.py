"""Racks: several gauges that watch one form."""

from metehouse.errors import NoValue, Taken, UnknownInstrument, Unlike
from metehouse.pieces import fewest_missing, shared


class Rack:
    """A row of gauges of one form; it never changes."""

    def __init__(self, *gauges):
        places = {}
        for place, gauge in enumerate(gauges):
            if gauge.name in places:
                raise Taken(gauge.name)
            places[gauge.name] = place
        for gauge in gauges:
            if gauge.form != gauges[0].form:
                raise Unlike(gauge.name)
        self.gauges = gauges
        self.places = places

    def names(self):
        """The names of the gauges, in order."""
        return list(self.places)

    def rooms(self, readings):
        """The pairs of a name with a reading and its room, in rack order."""
        for name in sorted(list(readings)):
            if name not in self.places:
                raise UnknownInstrument(name)
        return [(gauge.name, gauge.room(readings[gauge.name])) for gauge in self.gauges if gauge.name in readings]

    def possible(self, readings, most):
        """The set of the values for which at most so many readings are false."""
        return shared([room for _, room in self.rooms(readings)], most)

    def some_possible(self, readings, most):
        """The set of the possible values; raise NoValue if it is empty."""
        possible = self.possible(readings, most)
        if not possible:
            raise NoValue()
        return possible

    def least_liars(self, readings):
        """The least number of false readings that a value has."""
        return fewest_missing([room for _, room in self.rooms(readings)])

    def blame(self, readings, number):
        """The names, in rack order, whose readings are false for this value."""
        return [name for name, room in self.rooms(readings) if number not in room]

    def sure_liars(self, readings, most):
        """The names whose readings are false for all possible values."""
        possible = self.some_possible(readings, most)
        return [name for name, room in self.rooms(readings) if not possible & room]

    def sure_honest(self, readings, most):
        """The names whose readings are true for all possible values."""
        possible = self.some_possible(readings, most)
        return [name for name, room in self.rooms(readings) if possible.inside(room)]

    def clashes(self, readings):
        """The pairs of names whose rooms have no common value."""
        found = []
        rooms = self.rooms(readings)
        for place, (name, room) in enumerate(rooms):
            for other, other_room in rooms[place + 1:]:
                if not room & other_room:
                    found.append((name, other))
        return found

    def __len__(self):
        return len(self.places)

    def __contains__(self, name):
        return name in self.places
