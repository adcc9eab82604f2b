"""Judging: what a house tells of a claim, and what two houses allow."""

from metehouse.cases import fits, solve, world_of
from metehouse.claims import Not
from metehouse.failures import failing_ways, failures
from metehouse.problems import problem_of

# No budget of a house has this name, for it is no word.
OTHERS = "OTHERS"


def judge(house, claim):
    """One of the four words, with the paper that shows it."""
    against = Not(claim)
    kind, found = solve(problem_of(house, (), claim.names()))
    if kind == "tree":
        return ("none", found)
    # The first world settles one of the two questions.
    if claim(found):
        kind, other = solve(problem_of(house, (against,)))
        return ("sure", other) if kind == "tree" else ("open", found, other)
    kind, other = solve(problem_of(house, (claim,)))
    return ("never", other) if kind == "tree" else ("open", other, found)


def word(house, claim):
    """The word of the judgement, without its paper."""
    against = Not(claim)
    found = world_of(problem_of(house, (), claim.names()))
    if found is None:
        return "none"
    holds = claim(found)
    other = world_of(problem_of(house, (against if holds else claim,)))
    if other is not None:
        return "open"
    return "sure" if holds else "never"


def world_with(house, other, demands):
    """A world that fits the house, in which the demands hold, with the quantities of both houses; or None."""
    problem = problem_of(house, (), other.quantities())
    for ways in demands:
        problem.ask(None, ways)
    return world_of(problem)


def world_over(house, other, budget):
    """A world that fits the house, in which too many instruments of a budget of the other one lie; or None."""
    problem = problem_of(house, (), other.quantities())
    tellers = [name for name in other.names() if other.budget_of(name) == budget and other.readings(name)]
    honest = len(tellers) - other.budgets()[budget] - 1
    if honest < 0:
        return None
    # Here a teller stands for the failing of an instrument: so many may fail to fail.
    problem.numbers[OTHERS] = honest
    for name in tellers:
        problem.hear(name, OTHERS, [(None, failing_ways(other, name))])
    return world_of(problem)


def escapes(house, other):
    """A world that fits the house and does not fit the other one, or None."""
    found = world_with(house, other, [])
    if found is None or not fits(other, found):
        return found
    known = [str(claim) for _, claim in house.facts()]
    cases = [demands for _, claim in other.facts() if str(claim) not in known for demands in failures(claim)]
    cases.extend([[failing_ways(other, name)] for name in other.names() if other.budget_of(name) is None])
    for demands in cases:
        found = world_with(house, other, demands)
        if found is not None:
            return found
    for budget in other.budgets():
        found = world_over(house, other, budget)
        if found is not None:
            return found
    return None


def differ(first, second):
    """None if the same worlds fit both houses, otherwise (index, world) with a world that fits one alone."""
    world = escapes(first, second)
    if world is not None:
        return (0, world)
    world = escapes(second, first)
    return None if world is None else (1, world)
