"""Small houses, plain searches over all their cases, and a plain reading of what a tree of cases is."""

from itertools import product

from metehouse.claims import AtMost, Below, Both, Either, Not, Same
from metehouse.errors import TooWide
from metehouse.forks import Fork
from metehouse.forms import Form
from metehouse.gauges import CoarseGauge, Gauge
from metehouse.grids import Grid, Well
from metehouse.house import House
from metehouse.instruments import Balance, LateGauge
from metehouse.ladders import Ladder
from metehouse.linear import closes, greatest, settle
from metehouse.pieces import Pieces
from metehouse.runs import Run
from metehouse.tables import Table

GRID = Grid("g", 2, 2, drift=[("power", 1)])


def some_form(chance, names):
    terms = [(chance.choice(names), chance.choice([-2, -1, 1, 1, 2])) for _ in range(chance.randint(1, 2))]
    return Form(terms, chance.randint(-2, 2))


def some_claim(chance, names, depth=2):
    if depth == 0 or chance.random() < 0.4:
        return chance.choice([AtMost, Below, Same])(some_form(chance, names), chance.randint(-3, 3))
    kind = chance.random()
    if kind < 0.2:
        return Not(some_claim(chance, names, depth - 1))
    parts = [some_claim(chance, names, depth - 1) for _ in range(chance.choice([0, 1, 1, 2, 2, 2, 2, 2]))]
    return Both(*parts) if kind < 0.6 else Either(*parts)


def some_deniable(chance, names, depth=2):
    """A claim whose negation has few enough ways."""
    while True:
        claim = some_claim(chance, names, depth)
        try:
            Not(claim)
        except TooWide:
            continue
        return claim


def some_instrument(chance, name, names):
    """An instrument of any kind, and a telling of it that may be true or false."""
    first, second = some_form(chance, names), some_form(chance, names)
    number = chance.randint(-4, 4)
    kind = chance.randrange(8)
    if kind == 0:
        return Gauge(name, first, radius=chance.randint(0, 2)), number
    if kind == 1:
        return CoarseGauge(name, first, step=3, radius=chance.randint(0, 1)), 3 * chance.randint(-2, 2)
    if kind == 2:
        return LateGauge(name, first, second, radius=chance.randint(0, 1)), number
    if kind == 3:
        return Balance(name, first, second, dead=chance.randint(0, 1)), chance.choice(["left", "even", "right"])
    if kind == 4:
        return Fork(name, first, second), abs(number)
    if kind == 5:
        return Ladder(name, first, length=chance.randint(0, 4)), chance.choice(["reached", "missed"])
    if kind == 6:
        tries = chance.choice(["", "r", "m", "rm", "rr", "mrm"])
        return Run(name, first, length=chance.randint(0, 4), table=Table.race(1), wrong=chance.randint(0, 1)), tries
    return Well(name, GRID, chance.randrange(2), chance.randrange(2), first, time=chance.randrange(3)), number


def some_house(chance, names, instruments=4, facts=2, budgets=2, trusted=0.3):
    house = House(limit=200)
    shares = ["p", "q", "t"][:budgets]
    for share in shares:
        house.allow(share, chance.randint(0, 2))
    for name in "abcdefghijklmnop"[:chance.randint(0, instruments)]:
        instrument, told = some_instrument(chance, name, names)
        budget = chance.choice(shares) if shares and chance.random() >= trusted else None
        house.place(instrument, chance.choice(["east", "west"]), budget)
        if chance.random() < 0.9:
            house.read(name, told)
        if chance.random() < 0.2:
            house.read(name, told)
    for _ in range(chance.randint(0, facts)):
        house.learn(some_claim(chance, names), chance.choice(["east", "north"]))
    return house


def gauge_house(radii, told, most, form=Form.one("x"), limit=200):
    """Gauges a, b, .. over one form in one budget, each with one reading."""
    house = House(limit=limit)
    house.allow("p", most)
    for name, radius, number in zip("abcdefghijklmnopqrstuvwx", radii, told):
        house.place(Gauge(name, form, radius=radius), "s", "p")
        house.read(name, number)
    return house


def all_quantities(house, *others):
    """The quantities of a house and of claims, forms or further houses, ascending."""
    found = set(house.quantities())
    for other in others:
        found |= set(other.quantities() if isinstance(other, House) else other.names())
    return sorted(found)


def told_claims(house, name):
    return [house.instrument(name).says(told) for told in house.readings(name)]


def cases(house, *given):
    """The rows of each case: who lies, and which way each claim takes."""
    names = [name for name in house.names() if house.budget_of(name) is not None]
    always = list(given) + [claim for _, claim in house.facts()]
    for name in house.names():
        if house.budget_of(name) is None:
            always += told_claims(house, name)
    for minds in product([True, False], repeat=len(names)):
        lying = [house.budget_of(name) for name, honest in zip(names, minds) if not honest]
        if any(lying.count(share) > most for share, most in house.budgets().items()):
            continue
        claims = list(always)
        for name, honest in zip(names, minds):
            if honest:
                claims += told_claims(house, name)
        for ways in product(*[claim.ways() for claim in claims]):
            yield [row for way in ways for row in way]


def has_world(house, *given):
    """True if some case has a world."""
    return any(settle(rows)[0] == "world" for rows in cases(house, *given))


def plain_span(house, form, *given):
    """The values of a form, case by case."""
    found = Pieces.none()
    for rows in cases(house, *given):
        above = greatest(rows, form)
        if above[0] != "none":
            below = greatest(rows, -form)
            high = None if above[0] == "free" else above[1]
            low = None if below[0] == "free" else (-below[1][0], below[1][1])
            found = found | Pieces((low, below[0] == "most", high, above[0] == "most"))
    return found


def plain_fits(house, world):
    """True if the world fits, straight from what point 69 says."""
    false = [name for name in house.names() if not all(claim(world) for claim in told_claims(house, name))]
    lying = [house.budget_of(name) for name in false]
    if None in lying or not all(claim(world) for _, claim in house.facts()):
        return False
    return all(lying.count(share) <= most for share, most in house.budgets().items())


def is_right(house, tree, *given, rows=(), split=(), minds=None):
    """True if the tree is as point 80 says; kept apart from the program's own check."""
    minds = minds or {}
    if tree[0] == "weights":
        return type(tree[1]) is list and closes(list(rows), tree[1])
    if tree[0] == "over":
        liars = [name for name in minds if not minds[name] and house.budget_of(name) == tree[1]]
        return len(liars) > house.budgets()[tree[1]]
    if tree[0] == "liar":
        _, name, honest, lying = tree
        if name in minds or house.budget_of(name) is None:
            return False
        return (is_right(house, honest, *given, rows=rows, split=split, minds={**minds, name: True})
                and is_right(house, lying, *given, rows=rows, split=split, minds={**minds, name: False}))
    _, place, branches = tree
    if place in split or type(branches) is not list or place[-1] < 0:
        return False
    if place[0] == "given":
        claim = given[place[1]]
    elif place[0] == "fact":
        claim = house.facts()[place[1]][1]
    else:
        if house.budget_of(place[1]) is not None and not minds.get(place[1]):
            return False
        claim = told_claims(house, place[1])[place[2]]
    ways = claim.ways()
    return len(ways) == len(branches) and all(
        is_right(house, branch, *given, rows=[*rows, *way], split=(*split, place), minds=minds)
        for way, branch in zip(ways, branches))


def all_trees(tree):
    """The tree and all trees below it."""
    found = [tree]
    below = tree[2] if tree[0] == "split" else tree[2:] if tree[0] == "liar" else []
    for branch in below:
        found += all_trees(branch)
    return found


def replaced(tree, old, new):
    """The tree with another one in the place of the one that is just this object."""
    if tree is old:
        return new
    if tree[0] == "split":
        return ("split", tree[1], [replaced(branch, old, new) for branch in tree[2]])
    if tree[0] == "liar":
        return ("liar", tree[1], replaced(tree[2], old, new), replaced(tree[3], old, new))
    return tree
