"""Tracks: one level from tick to tick."""

from metehouse.errors import BadLimit, BadName, BadNumber, NoStory, NoTick, NothingToUndo, NotPossible
from metehouse.errors import NoValue, Taken, Unlike
from metehouse.exact import plus
from metehouse.forms import Form, is_word
from metehouse.pieces import Pieces, shared


class Track:
    """The levels that one quantity can have at each tick, by what gauges told of it."""

    def __init__(self, word, start, *, pace=0, most=0):
        if not is_word(word):
            raise BadName(word)
        if not start:
            raise NoValue()
        if pace < 0:
            raise BadNumber(pace)
        if most < 0:
            raise BadLimit(most)
        self._form = Form.one(word)
        self._start = start
        self._pace = pace
        self._most = most
        # For each tick its list of pairs (gauge, told), and the set of the levels there.
        self._told = []
        self._levels = []
        # For each record and tell_late in force: None, or the tick that was told late.
        self._done = []

    @property
    def now(self):
        """The set of the possible levels at the latest tick, the start if there is none."""
        return self._levels[-1] if len(self._levels) > 0 else self._start

    def need_tick(self, tick):
        """Raise NoTick if there is no such tick."""
        if not 0 <= tick < len(self._told):
            raise NoTick(tick)

    def check_telling(self, earlier, gauge, told):
        """Raise an error if a telling cannot stand behind the earlier ones of its tick."""
        if gauge.form != self._form:
            raise Unlike(gauge.name)
        for other, _ in earlier:
            if other.name == gauge.name:
                raise Taken(gauge.name)
        gauge.room(told)

    def levels_from(self, tick, told):
        """The sets of levels from a tick on, for a list of the tellings of each tick from there on."""
        before = self._levels[tick - 1] if tick > 0 else None
        found = []
        for tellings in told:
            rooms = [gauge.room(number) for gauge, number in tellings]
            reached = self._start if before is None else before.grown(self._pace, self._pace)
            before = reached & shared(rooms, self._most)
            if not before:
                raise NoStory(tick + len(found))
            found.append(before)
        return found

    def record(self, *tellings):
        """Add a tick with these tellings; the set of the possible levels there."""
        earlier = []
        for gauge, told in tellings:
            self.check_telling(earlier, gauge, told)
            earlier.append((gauge, told))
        levels = self.levels_from(len(self._told), [earlier])
        self._told.append(earlier)
        self._levels.extend(levels)
        self._done.append(None)
        return self.now

    def tell_late(self, tick, gauge, told):
        """Add a telling to a tick that was recorded; the set of the possible levels now."""
        self.need_tick(tick)
        self.check_telling(self._told[tick], gauge, told)
        tellings = [*self._told[tick], (gauge, told)]
        levels = self.levels_from(tick, [tellings, *self._told[tick + 1:]])
        self._told[tick] = tellings
        self._levels[tick:] = levels
        self._done.append(tick)
        return self.now

    def undo(self):
        """Take the latest record or tell_late back."""
        if len(self._done) == 0:
            raise NothingToUndo()
        tick = self._done.pop()
        if tick is None:
            self._told.pop()
            self._levels.pop()
        else:
            self._told[tick] = self._told[tick][:-1]
            self._levels[tick:] = self.levels_from(tick, self._told[tick:])

    def at(self, tick):
        """The set of the levels that end a story of the ticks up to this one."""
        self.need_tick(tick)
        return self._levels[tick]

    def smoothed(self, tick):
        """The set of the levels at this tick in all stories of all ticks."""
        self.need_tick(tick)
        found = self._levels[-1]
        for levels in self._levels[tick:-1][::-1]:
            found = levels & found.grown(self._pace, self._pace)
        return found

    def story(self, number):
        """A story of all ticks that ends with this level."""
        if number not in self.now:
            raise NotPossible(number)
        if len(self._levels) == 0:
            return []
        story = [number]
        for levels in self._levels[:-1][::-1]:
            low, high = plus(story[-1], (-self._pace, 1)), plus(story[-1], (self._pace, 1))
            story.append((levels & Pieces((low, True, high, True))).some())
        return story[::-1]

    def ticks(self):
        """The tick, the names of its gauges and the set of levels at it, tick by tick."""
        for tick, tellings in enumerate(self._told):
            names = [gauge.name for gauge, _ in tellings]
            yield (tick, names, self._levels[tick])

    def __len__(self):
        return len(self._told)
