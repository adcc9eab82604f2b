"""Problems: what a world must satisfy, as demands with ways, of which tellers may break some."""


class Demand:
    """Something that holds in one of its ways; that of a teller must hold only if the teller is honest."""

    def __init__(self, place, choices, teller):
        self.label = place
        self.choices = choices
        self.teller = teller


class Teller:
    """An instrument that may lie, with the indexes of the demands that its readings make."""

    def __init__(self, name, share, told):
        self.name = name
        self.share = share
        self.told = told


class Problem:
    """Demands, tellers, and the number of each budget: so many of its tellers may lie."""

    def __init__(self, labels, numbers):
        self.labels = labels
        self.numbers = numbers
        self.demands = []
        self.tellers = []

    def ask(self, place, choices):
        """Add a demand that must hold in any case."""
        self.demands.append(Demand(place, choices, None))

    def hear(self, name, share, asked):
        """Add a teller with its demands, pairs of a place and ways."""
        told = []
        for place, choices in asked:
            told.append(len(self.demands))
            self.demands.append(Demand(place, choices, len(self.tellers)))
        self.tellers.append(Teller(name, share, told))

    def with_demands(self, *asked):
        """The same problem with further demands, pairs of a place and ways, that must hold in any case."""
        problem = Problem(self.labels, self.numbers)
        problem.demands.extend(self.demands)
        problem.tellers.extend(self.tellers)
        for place, choices in asked:
            problem.ask(place, choices)
        return problem


def ways_of_readings(house, name):
    """The list of the ways of all readings of an instrument, each with its place."""
    instrument = house.instrument(name)
    told = house.readings(name)
    return [(("reading", name, index), instrument.says(one).ways()) for index, one in enumerate(told)]


def labels_of(house, claims, more):
    """The ascending list of the quantities of a house, of some claims, and further ones."""
    found = {name: True for name in [*house.quantities(), *more]}
    for claim in claims:
        for name in claim.names():
            found[name] = True
    return sorted(list(found))


def problem_of(house, given, more=()):
    """The problem of a world that fits the house, satisfies the given claims, and has more quantities."""
    problem = Problem(labels_of(house, given, more), house.budgets())
    for index, claim in enumerate(given):
        problem.ask(("given", index), claim.ways())
    for index, (_, claim) in enumerate(house.facts()):
        problem.ask(("fact", index), claim.ways())
    for name in house.names():
        budget = house.budget_of(name)
        asked = ways_of_readings(house, name)
        if budget is None:
            for place, choices in asked:
                problem.ask(place, choices)
        elif len(asked) > 0:
            problem.hear(name, budget, asked)
    return problem
