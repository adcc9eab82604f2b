"""Checking trees of cases, step by step along each path."""

from metehouse.linear import closes


def claim_at(house, place, given):
    """The claim at a place of a split, or None if there is none."""
    kind, which = place[0], place[1]
    if kind == "given":
        return given[which] if 0 <= which < len(given) else None
    if kind == "fact":
        facts = house.facts()
        return facts[which][1] if 0 <= which < len(facts) else None
    if which not in house:
        return None
    told = house.readings(which)
    return house.instrument(which).says(told[place[2]]) if 0 <= place[2] < len(told) else None


class Check:
    """A check of one tree: what stands at its places, and the paths that are still to be checked.

    A path is a triple: the rows on it, the places that were split, and who was decided to be honest.
    """

    def __init__(self, house, given):
        self.house = house
        self.given = given
        self.known_ways = {}
        self.todo = []

    def ways_at(self, place):
        """The ways of the claim at a place, or None if there is none."""
        if place not in self.known_ways:
            claim = claim_at(self.house, place, self.given)
            self.known_ways[place] = None if claim is None else claim.ways()
        return self.known_ways[place]

    def may_lie(self, name):
        """True if there is an instrument of this name that has a budget."""
        return name in self.house and self.house.budget_of(name) is not None

    def is_over(self, budget, minds):
        """True if more instruments of the budget were decided to lie than its number."""
        numbers = self.house.budgets()
        if budget not in numbers:
            return False
        liars = [name for name, honest in minds.items() if not honest and self.house.budget_of(name) == budget]
        return len(liars) > numbers[budget]

    def may_split(self, place, path):
        """True if the place can be split on the path."""
        _, split, minds = path
        if place in split or self.ways_at(place) is None:
            return False
        return place[0] != "reading" or not self.may_lie(place[1]) or minds.get(place[1], False)

    def step_right(self, tree, path):
        """True if the tree begins right at this path; what comes behind it is put off."""
        rows, split, minds = path
        if tree[0] == "weights":
            return closes(rows, tree[1])
        if tree[0] == "over":
            return self.is_over(tree[1], minds)
        if tree[0] == "liar":
            name = tree[1]
            if not self.may_lie(name) or name in minds:
                return False
            self.todo.append((tree[2], (rows, split, {**minds, name: True})))
            self.todo.append((tree[3], (rows, split, {**minds, name: False})))
            return True
        place, branches = tree[1], tree[2]
        if not self.may_split(place, path):
            return False
        ways = self.ways_at(place)
        for way, branch in zip(ways, branches):
            self.todo.append((branch, ([*rows, *way], (*split, place), minds)))
        return len(ways) == len(branches)

    def all_right(self, tree):
        """True if the whole tree is right."""
        self.todo.append((tree, ([], (), {})))
        while len(self.todo) > 0:
            branch, path = self.todo.pop()
            if not self.step_right(branch, path):
                return False
        return True


def checks(house, tree, *given):
    """True if the tree shows that no world fits the house and satisfies the given claims."""
    return Check(house, given).all_right(tree)
