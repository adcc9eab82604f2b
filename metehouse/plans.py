"""Plans: the fewest further readings that settle a claim."""

from metehouse.errors import NoTellings, Taken, TooMany
from metehouse.house import MOST_READINGS
from metehouse.judging import word

MOST_NAMES = 3


def need_names(house, names):
    """Raise an error if the named instruments cannot all be read once more."""
    if len(names) > MOST_NAMES:
        raise TooMany("names", MOST_NAMES)
    for index, name in enumerate(names):
        instrument = house.instrument(name)
        if name in names[:index]:
            raise Taken(name)
        if len(instrument.tellings()) == 0:
            raise NoTellings(name)
        if len(house.readings(name)) >= MOST_READINGS:
            raise TooMany("readings", MOST_READINGS)


class Planner:
    """The plans for a claim, by what was read: a telling for each name, or None if it was not read yet."""

    def __init__(self, house, claim, names):
        self.house = house
        self.goal = claim
        self.asked = names
        self.outcomes = [house.instrument(name).tellings() for name in names]
        self.words = {}

    def word_after(self, told):
        """The word for the claim in the house in which this was read."""
        if told not in self.words:
            house = self.house
            for name, telling in zip(self.asked, told):
                if telling is not None:
                    house = house.hearing(name, telling)
            self.words[told] = word(house, self.goal)
        return self.words[told]

    def stuck(self):
        """A telling for each name after which the claim is still open, or None."""
        full = [()]
        for tellings in self.outcomes:
            full = [(*told, telling) for told in full for telling in tellings]
        for told in full:
            if self.word_after(told) == "open":
                return list(zip(self.asked, told))
        return None

    def plan_after(self, told):
        """The least length of a plan behind what was read, and such a plan; all readings would settle the claim."""
        if self.word_after(told) != "open":
            return (0, ("told", self.word_after(told)))
        best = None
        for index, name in enumerate(self.asked):
            if told[index] is None:
                after = [(*told[:index], telling, *told[index + 1:]) for telling in self.outcomes[index]]
                plans = [self.plan_after(more) for more in after]
                length = 1 + max([depth for depth, _ in plans])
                if best is None or length < best[0]:
                    branches = [(telling, below) for telling, (_, below) in zip(self.outcomes[index], plans)]
                    best = (length, ("read", name, branches))
        return best


def plan(house, claim, *names):
    """The least number of further readings that settle the claim, and the plan that does it."""
    need_names(house, names)
    planner = Planner(house, claim, names)
    start = tuple([None for _ in names])
    # Readings leave a claim settled that is settled without them.
    stuck = planner.stuck() if planner.word_after(start) == "open" else None
    return planner.plan_after(start) if stuck is None else (None, stuck)
