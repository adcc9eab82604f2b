"""Plain searches over the chains of small nets, and what is right of an answer that is free."""

from metehouse.linear import greatest, settle
from metehouse.nets import Net


def some_net(chance, count, names="abc", top=4, ground=0.3):
    limits = []
    for _ in range(count):
        places = chance.sample(list(names), 2)
        if chance.random() < ground:
            places[chance.randrange(2)] = None
        limits.append((*places, chance.randint(-top, top), chance.choice(["<=", "<"])))
    return Net(limits)


def open_net(chance, count, names="abc"):
    """A net without a ring, from limits that a hidden world keeps."""
    world = {name: chance.randint(-4, 4) for name in names}
    world[None] = 0
    limits = []
    for _ in range(count):
        first, second = chance.sample([*names, None], 2)
        room = chance.choice([0, 0, 1, 2, 5])
        limits.append((first, second, world[second] - world[first] + room, chance.choice(["<=", "<"]) if room else "<="))
    return Net(limits)


def rank_of(found):
    """Bounds as numbers that ascend from the tightest one."""
    most, sign = found
    return 2 * most - (1 if sign == "<" else 0)


def is_chain(net, chain, first, second):
    if len(set(chain)) != len(chain) or not all(0 <= index < len(net.limits) for index in chain):
        return False
    for index in chain:
        if net.limits[index][0] != first:
            return False
        first = net.limits[index][1]
    return first == second


def sum_of(net, chain):
    limits = [net.limits[index] for index in chain]
    return (sum(limit[2] for limit in limits), "<" if any(limit[3] == "<" for limit in limits) else "<=")


def is_ring(net, ring):
    if type(ring) is not list or len(ring) < 2 or not 0 <= ring[0] < len(net.limits):
        return False
    start = net.limits[ring[0]][0]
    return is_chain(net, ring, start, start) and rank_of(sum_of(net, ring)) < 0


def all_chains(net, first, second):
    """All chains without a limit that stands twice."""
    found = []

    def go_on(name, chain):
        if name == second:
            found.append(chain)
        for index, limit in enumerate(net.limits):
            if limit[0] == name and index not in chain:
                go_on(limit[1], chain + [index])

    go_on(first, [])
    return found


def plain_bound(net, first, second):
    sums = [sum_of(net, chain) for chain in all_chains(net, first, second)]
    return min(sums, key=rank_of, default=None)


def rows_of(net):
    return [row for claim in net.claims() for row in claim.ways()[0]]


def has_world(net):
    return settle(rows_of(net))[0] == "world"


def linear_bound(net, form):
    """The tightest bound of a form, from the rows of the claims."""
    found = greatest(rows_of(net), form)
    if found[0] == "free":
        return None
    return (found[1], "<=" if found[0] == "most" else "<")
