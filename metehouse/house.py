"""The house: budgets, instruments with their readings, and facts, changed by deeds."""

from metehouse.claims import Both
from metehouse.errors import BadDeed, BadLimit, BadName, Full, MeteError, NoFact, NoReading, NothingToRedo
from metehouse.errors import NothingToUndo, RunRefused, Taken, TooMany, UnknownBudget, UnknownInstrument
from metehouse.errors import UnknownSection
from metehouse.forms import is_word

MOST_BUDGETS = 8
MOST_LIARS = 24
MOST_INSTRUMENTS = 24
MOST_READINGS = 8
MOST_FACTS = 40


def write_telling(told):
    """How a line of a deed writes a telling."""
    return "-" if told == "" else str(told)


class Placed:
    """An instrument in its section, with its budget or None, and its readings; it never changes."""

    def __init__(self, instrument, section, budget, told):
        self.device = instrument
        self.section = section
        self.budget = budget
        self.told = told

    def with_told(self, told):
        """The same instrument with other readings."""
        return Placed(self.device, self.section, self.budget, told)


class Contents:
    """What a house holds: budgets, placed instruments by name, and facts; it never changes."""

    def __init__(self, shares, placed, learned):
        self.shares = shares
        self.placed = placed
        self.learned = learned

    def with_share(self, budget, most):
        """The same contents with this number for a budget."""
        return Contents({**self.shares, budget: most}, self.placed, self.learned)

    def with_placed(self, name, placed):
        """The same contents with this placed instrument under its name."""
        return Contents(self.shares, {**self.placed, name: placed}, self.learned)

    def with_fact(self, section, claim):
        """The same contents with one more fact."""
        return Contents(self.shares, self.placed, (*self.learned, (section, claim)))


class House:
    """A house of instruments, what they told, and what is known besides.

    Contents never change: a deed puts new contents in the place of the old ones. So a deed
    is taken back by its old contents, and houses may hold the same ones.
    """

    MOST_DEEDS = 200

    def __init__(self, *, limit=100):
        if not 0 <= limit <= House.MOST_DEEDS:
            raise BadLimit(limit)
        self._limit = limit
        self._contents = Contents({}, {}, ())
        self._done = []
        self._undone = []

    @property
    def limit(self):
        """The number of deeds that can be in force."""
        return self._limit

    @limit.setter
    def limit(self, most):
        if not len(self._done) <= most <= House.MOST_DEEDS:
            raise BadLimit(most)
        self._limit = most

    def change(self, limit):
        """Set the number of deeds that can be in force."""
        self.limit = limit

    def need_room(self):
        """Raise Full if no further deed can be in force."""
        if len(self._done) >= self._limit:
            raise Full(self._limit)

    def keep(self, line, contents):
        """Put a deed in force: its line and the contents that it leads to."""
        self._done.append((line, self._contents))
        self._undone = []
        self._contents = contents

    def placed_as(self, name):
        """The placed instrument of this name; raise UnknownInstrument."""
        if name not in self._contents.placed:
            raise UnknownInstrument(name)
        return self._contents.placed[name]

    def allow(self, budget, most):
        """Set the number of a budget, a new one or an old one."""
        self.need_room()
        if not is_word(budget):
            raise BadName(budget)
        if not 0 <= most <= MOST_LIARS:
            raise BadLimit(most)
        shares = self._contents.shares
        if budget not in shares and len(shares) >= MOST_BUDGETS:
            raise TooMany("budgets", MOST_BUDGETS)
        self.keep(f"allow {budget} {most}", self._contents.with_share(budget, most))

    def place(self, instrument, section, budget=None):
        """Place an instrument in a section, with a budget or trusted."""
        self.need_room()
        if instrument.name in self._contents.placed:
            raise Taken(instrument.name)
        if not is_word(section):
            raise BadName(section)
        if budget is not None and budget not in self._contents.shares:
            raise UnknownBudget(budget)
        if len(self._contents.placed) >= MOST_INSTRUMENTS:
            raise TooMany("instruments", MOST_INSTRUMENTS)
        placed = Placed(instrument, section, budget, ())
        share = "-" if budget is None else budget
        self.keep(f"place {section} {share} {instrument}", self._contents.with_placed(instrument.name, placed))

    def read(self, name, told):
        """Record a reading of an instrument; its index among the readings of that instrument."""
        self.need_room()
        placed = self.placed_as(name)
        # Only what the instrument can tell is recorded: says raises BadReading otherwise.
        placed.device.says(told)
        index = len(placed.told)
        if index >= MOST_READINGS:
            raise TooMany("readings", MOST_READINGS)
        after = self._contents.with_placed(name, placed.with_told((*placed.told, told)))
        self.keep(f"read {name} {write_telling(told)}", after)
        return index

    def learn(self, claim, section):
        """Record a fact; its index among all facts."""
        self.need_room()
        if not is_word(section):
            raise BadName(section)
        index = len(self._contents.learned)
        if index >= MOST_FACTS:
            raise TooMany("facts", MOST_FACTS)
        self.keep(f"learn {section} {claim}", self._contents.with_fact(section, claim))
        return index

    def drop(self, name, index):
        """Take the reading with this index out and return it."""
        self.need_room()
        placed = self.placed_as(name)
        if not 0 <= index < len(placed.told):
            raise NoReading(name, index)
        told = placed.told[:index] + placed.told[index + 1:]
        self.keep(f"drop {name} {index}", self._contents.with_placed(name, placed.with_told(told)))
        return placed.told[index]

    def undo(self):
        """Take the latest deed in force back; its line."""
        if len(self._done) == 0:
            raise NothingToUndo()
        line, before = self._done.pop()
        self._undone.append((line, self._contents))
        self._contents = before
        return line

    def redo(self):
        """Do the latest undone deed again; its line."""
        if len(self._undone) == 0:
            raise NothingToRedo()
        self.need_room()
        line, after = self._undone.pop()
        self._done.append((line, self._contents))
        self._contents = after
        return line

    def history(self):
        """The lines of the deeds in force, oldest first."""
        return [line for line, _ in self._done]

    def do(self, word, *rest):
        """Do the deed of this name with these arguments; what its method returns."""
        if word == "allow":
            return self.allow(*rest)
        if word == "place":
            return self.place(*rest)
        if word == "read":
            return self.read(*rest)
        if word == "learn":
            return self.learn(*rest)
        if word == "drop":
            return self.drop(*rest)
        raise BadDeed(word)

    def run(self, *deeds):
        """Do several deeds, all of them or none; the list of what they return."""
        # The twin bears what a refused deed leaves behind, so this house need not be mended.
        trial = self.twin()
        returned = []
        for index, deed in enumerate(deeds):
            try:
                returned.append(trial.do(*deed))
            except MeteError as error:
                raise RunRefused(index) from error
        self._done = trial._done
        self._undone = trial._undone
        self._contents = trial._contents
        return returned

    def names(self):
        """The names of the instruments in the order of placing."""
        return list(self._contents.placed)

    def sections(self):
        """The sections, each once: those of the instruments, then those of the facts."""
        found = {}
        for placed in self._contents.placed.values():
            found[placed.section] = True
        for section, _ in self._contents.learned:
            found[section] = True
        return list(found)

    def budgets(self):
        """The dict from budgets to their numbers."""
        return dict(self._contents.shares)

    def readings(self, name):
        """The readings of an instrument, in order."""
        return list(self.placed_as(name).told)

    def section_of(self, name):
        """The section of an instrument."""
        return self.placed_as(name).section

    def budget_of(self, name):
        """The budget of an instrument, None if it is trusted."""
        return self.placed_as(name).budget

    def instrument(self, name):
        """The instrument of this name itself."""
        return self.placed_as(name).device

    def facts(self):
        """The facts as pairs (section, claim), in order."""
        return list(self._contents.learned)

    def quantities(self):
        """The quantities of all instruments and of all facts, ascending."""
        found = {}
        for placed in self._contents.placed.values():
            found.update({name: True for name in placed.device.names()})
        for _, claim in self._contents.learned:
            found.update({name: True for name in claim.names()})
        return sorted(list(found))

    def says(self, name):
        """The claim that all readings of an instrument are true."""
        placed = self.placed_as(name)
        claims = [placed.device.says(told) for told in placed.told]
        return Both(*claims)

    def with_contents(self, contents):
        """A new house with the same limit and these contents, without deeds."""
        house = House(limit=self._limit)
        house._contents = contents
        return house

    def part(self, *sections):
        """A house with the instruments and the facts of these sections alone."""
        known = self.sections()
        for section in sections:
            if section not in known:
                raise UnknownSection(section)
        held = self._contents
        kept = {name: placed for name, placed in held.placed.items() if placed.section in sections}
        facts = tuple([(section, claim) for section, claim in held.learned if section in sections])
        return self.with_contents(Contents(held.shares, kept, facts))

    def blaming(self, *names):
        """A house in which just these instruments may lie: they have no readings, and the budgets are 0."""
        for name in names:
            self.placed_as(name)
        held = self._contents
        left = {name: placed.with_told(() if name in names else placed.told) for name, placed in held.placed.items()}
        return self.with_contents(Contents({budget: 0 for budget in held.shares}, left, held.learned))

    def keeping(self, *things):
        """A house that keeps the readings of the named instruments and the named facts alone."""
        held = self._contents
        for kind, which in things:
            if kind == "instrument":
                self.placed_as(which)
            elif not 0 <= which < len(held.learned):
                raise NoFact(which)
        left = {}
        for name, placed in held.placed.items():
            left[name] = placed if ("instrument", name) in things else placed.with_told(())
        facts = tuple([fact for index, fact in enumerate(held.learned) if ("fact", index) in things])
        return self.with_contents(Contents(held.shares, left, facts))

    def allowing(self, budget, most):
        """A house in which a budget that is set has this number."""
        return self.with_contents(self._contents.with_share(budget, most))

    def hearing(self, name, told):
        """A house in which a placed instrument has a further reading, one that it can tell."""
        placed = self.placed_as(name)
        return self.with_contents(self._contents.with_placed(name, placed.with_told((*placed.told, told))))

    def muting(self, *names):
        """A house in which these instruments have no readings."""
        contents = self._contents
        for name in names:
            contents = contents.with_placed(name, self.placed_as(name).with_told(()))
        return self.with_contents(contents)

    def twin(self):
        """The same house, with the same deeds in force and undone."""
        house = self.with_contents(self._contents)
        house._done = list(self._done)
        house._undone = list(self._undone)
        return house

    def __len__(self):
        return len(self._contents.placed)

    def __contains__(self, name):
        return name in self._contents.placed
