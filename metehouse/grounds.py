"""Grounds: as few things as possible for which a claim is sure."""

from metehouse.cases import closed, find_world, shows, solve
from metehouse.checking import checks
from metehouse.claims import Not
from metehouse.errors import NotSure
from metehouse.judging import judge
from metehouse.problems import problem_of
from metehouse.trees import places_of


class Ground:
    """The things, a tree that shows that they are enough, and for each thing a world that shows that it is needed."""

    def __init__(self, things, tree, worlds):
        self.things = things
        self.tree = tree
        self.worlds = worlds


def all_things(house):
    """The things of the house, in order."""
    things = [("instrument", name) for name in house.names()]
    return things + [("fact", index) for index in range(len(house.facts()))]


def without(things, thing):
    """The things without one of them."""
    return [other for other in things if other != thing]


def used_things(kept, tree):
    """Those of the kept things that a tree for the house that keeps them needs."""
    facts = [thing for thing in kept if thing[0] == "fact"]
    used = {}
    for place in places_of(tree):
        if place[0] == "reading":
            used[("instrument", place[1])] = True
        elif place[0] == "fact":
            used[facts[place[1]]] = True
    return [thing for thing in kept if thing in used]


def sure_tree(house, claim):
    """The tree by which the claim is sure; raise NotSure if it is not."""
    verdict = judge(house, claim)
    if verdict[0] != "sure":
        raise NotSure(verdict[0])
    return verdict[1]


def ground(house, claim):
    """A ground of the claim."""
    tree = sure_tree(house, claim)
    against = Not(claim)
    kept = used_things(all_things(house), tree)
    worlds = {}
    while len(worlds) < len(kept):
        # The things at the beginning have worlds; whatever else is left out, they stay needed.
        thing = kept[len(worlds)]
        rest = without(kept, thing)
        kind, found = solve(problem_of(house.keeping(*rest), (against,)))
        if kind == "world":
            worlds[thing] = found
        else:
            kept = used_things(rest, found)
    return Ground(kept, closed(house.keeping(*kept), against), worlds)


def check_ground(house, claim, ground):
    """True if the ground is right for the claim, and the claim is sure in the house."""
    against = Not(claim)
    things, worlds = ground.things, ground.worlds
    if [thing for thing in all_things(house) if thing in things] != things:
        return False
    if len(worlds) != len(things) or not all([thing in worlds for thing in things]):
        return False
    if not checks(house.keeping(*things), ground.tree, against):
        return False
    for thing in things:
        rest = without(things, thing)
        if not shows(worlds[thing], house.keeping(*rest), against):
            return False
    # With a right tree the claim is sure as long as any world fits.
    return find_world(house) is not None


def needed(house, claim):
    """The things without which the claim is not sure, in the order of the house."""
    tree = sure_tree(house, claim)
    against = Not(claim)
    things = all_things(house)
    found = []
    for thing in used_things(things, tree):
        rest = without(things, thing)
        if find_world(house.keeping(*rest), against) is not None:
            found.append(thing)
    return found
