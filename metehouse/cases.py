"""Cases: worlds that fit a house, and trees that show that there are none."""

from metehouse.exact import ratio
from metehouse.forms import need_levels
from metehouse.instruments import is_whole
from metehouse.problems import labels_of, problem_of
from metehouse.search import Search
from metehouse.trees import whole_tree


def solve(problem):
    """A world that solves the problem as ("world", world), or ("tree", tree)."""
    kind, found = Search(problem).solve()
    return (kind, found if kind == "world" else whole_tree(problem, found))


def world_of(problem):
    """A world that solves the problem, or None; no tree is written for it."""
    kind, found = Search(problem).solve()
    return found if kind == "world" else None


def closed(house, *given):
    """A tree that shows that no world fits the house and satisfies the given claims, or None."""
    kind, found = solve(problem_of(house, given))
    return found if kind == "tree" else None


def find_world(house, *given):
    """A world that fits the house and satisfies the given claims, or None."""
    return world_of(problem_of(house, given))


def lies(house, name, world):
    """True if at least one reading of the instrument is false in the world."""
    instrument = house.instrument(name)
    claims = [instrument.says(told) for told in house.readings(name)]
    return not all([claim(world) for claim in claims])


def liars(house, world):
    """The names of the instruments that lie in the world, in the order of placing."""
    need_levels(house.quantities(), world)
    return [name for name in house.names() if lies(house, name, world)]


def fits(house, world):
    """True if the world fits the house."""
    found = liars(house, world)
    left = house.budgets()
    for name in found:
        budget = house.budget_of(name)
        if budget is None or left[budget] == 0:
            return False
        left[budget] -= 1
    return all([claim(world) for _, claim in house.facts()])


def is_level(value):
    """True if the value is a ratio: in lowest terms, with a bottom of at least 1."""
    if not isinstance(value, tuple) or len(value) != 2 or not all([is_whole(number) for number in value]):
        return False
    return value[1] >= 1 and ratio(value[0], value[1]) == value


def shows(world, house, *claims):
    """True if this is a world, with all levels that are needed, that fits the house and satisfies the claims."""
    if not all([is_level(value) for value in world.values()]):
        return False
    if not all([name in world for name in labels_of(house, claims, ())]):
        return False
    return fits(house, world) and all([claim(world) for claim in claims])
