"""Lies: how many instruments must lie, who lies, and who may be blamed."""

from metehouse.cases import liars, solve, world_of
from metehouse.errors import BadLimit, NoWorld, UnknownBudget
from metehouse.failures import failing_ways
from metehouse.house import MOST_LIARS
from metehouse.problems import problem_of, ways_of_readings
from metehouse.ranks import choices
from metehouse.trees import places_of

MOST_SUSPECTS = 3


def need_budget(house, budget):
    """Raise UnknownBudget if the house does not have the budget."""
    if budget not in house.budgets():
        raise UnknownBudget(budget)


def least_liars(house, budget):
    """The least number for the budget with which a world fits, such a world, and a tree for one less."""
    need_budget(house, budget)
    most, best = MOST_LIARS, None
    while most >= 0:
        kind, found = solve(problem_of(house.allowing(budget, most), ()))
        if kind == "tree":
            return (None, None, found) if best is None else (most + 1, best, found)
        best = found
        # Fewer than those who lie in this world are asked for next.
        most = len([name for name in liars(house, best) if house.budget_of(name) == budget]) - 1
    return (0, best, None)


class Verdicts:
    """Who lies in each of the worlds that were found so far."""

    def __init__(self, house, world):
        self.house = house
        self.seen = [liars(house, world)]

    def was_seen(self, name, lying):
        """True if the instrument lies, or is honest, in a world that was found."""
        return any([(name in found) == lying for found in self.seen])

    def has_world(self, house, asked):
        """True if a world fits this house in which the demands hold; it fits the own house, too."""
        found = world_of(problem_of(house, ()).with_demands(*asked))
        if found is not None:
            self.seen.append(liars(self.house, found))
        return found is not None

    def can_lie(self, name):
        """True if the instrument lies in some world that fits."""
        budget = self.house.budget_of(name)
        most = self.house.budgets()[budget]
        if most == 0 or self.was_seen(name, True):
            return most > 0
        # It takes one of the places of its budget, and then it says nothing.
        others = self.house.muting(name).allowing(budget, most - 1)
        return self.has_world(others, [(None, failing_ways(self.house, name))])

    def can_be_honest(self, name):
        """True if the instrument does not lie in some world that fits."""
        if self.was_seen(name, False):
            return True
        return self.has_world(self.house.muting(name), ways_of_readings(self.house, name))

    def verdict(self, name):
        """The word for an instrument."""
        if not self.can_lie(name):
            return "honest"
        return "open" if self.can_be_honest(name) else "liar"


def honesty(house):
    """The dict from each instrument that has a budget to a word: does it lie in no world, in all, or in some."""
    kind, found = solve(problem_of(house, ()))
    if kind == "tree":
        raise NoWorld(found)
    verdicts = Verdicts(house, found)
    return {name: verdicts.verdict(name) for name in house.names() if house.budget_of(name) is not None}


def accused(house, budget, tree):
    """The instruments of the budget whose readings a tree needs: no world fits unless one of them is blamed."""
    names = {place[1]: True for place in places_of(tree) if place[0] == "reading"}
    return [name for name in names if house.budget_of(name) == budget]


def hits(blamed, groups):
    """True if each of the groups has a member that is blamed."""
    return all([any([name in blamed for name in group]) for group in groups])


def suspects(house, budget, *, most=2):
    """The sets, with the least number of members, of instruments of the budget that can be blamed."""
    need_budget(house, budget)
    if not 0 <= most <= MOST_SUSPECTS:
        raise BadLimit(most)
    strict = house.allowing(budget, 0)
    names = [name for name in house.names() if house.budget_of(name) == budget]
    groups = []
    for size in range(min(most, len(names)) + 1):
        found = []
        for chosen in choices(len(names), size):
            blamed = tuple([names[number] for number in chosen])
            # The tree that gave a group stays right if none of the group is blamed.
            if hits(blamed, groups):
                kind, answer = solve(problem_of(strict.muting(*blamed), ()))
                if kind == "world":
                    found.append(blamed)
                else:
                    groups.append(accused(house, budget, answer))
        if len(found) > 0:
            return found
    return []
