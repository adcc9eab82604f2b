"""Spans: which values a form has in the worlds that fit a house."""

from metehouse.cases import solve, world_of
from metehouse.errors import BadNumber, TooMany, TooWide
from metehouse.exact import compare
from metehouse.linear import greatest
from metehouse.pieces import Pieces, has_value, piece_claim, value_in
from metehouse.problems import problem_of
from metehouse.ranks import ranked
from metehouse.truths import Truths

MOST_PIECES = 12
MOST_SIGNED = 4


def true_rows(problem, world):
    """Rows that hold in the world, and only in worlds that solve the problem."""
    truths = Truths(problem.demands)
    truths.look_at(world)
    ways = [truths.way_of(index) for index in range(len(problem.demands))]
    kept = [index for index, demand in enumerate(problem.demands) if demand.teller is None]
    for teller in problem.tellers:
        # An instrument that lies in this world may lie in the others as well.
        if all([ways[index] is not None for index in teller.told]):
            kept.extend(teller.told)
    return [row for index in kept for row in problem.demands[index].choices[ways[index]]]


def stretch_around(problem, world, form):
    """The values of the form in the worlds in which all holds that is true in this one."""
    rows = true_rows(problem, world)
    above, below = greatest(rows, form), greatest(rows, -form)
    high = None if above[0] == "free" else above[1]
    low = None if below[0] == "free" else (-below[1][0], below[1][1])
    return (low, below[0] == "most", high, above[0] == "most")


def ways_into(pieces, form):
    """The ways in which the value of the form belongs to the set, however many they are."""
    return [piece_claim(part, form).ways()[0] for part in pieces]


def value_to_ask(found, missing):
    """A value between the pieces that were found, if there are too many: None, or one that may belong to the set.

    Pieces are apart for sure if one of the missing values lies between them.
    """
    if len(found) <= MOST_PIECES:
        return None
    gaps = [gap for gap in ~found if gap[0] is not None and gap[2] is not None]
    unsure = [gap for gap in gaps if not any([has_value(gap, value) for value in missing])]
    if len(gaps) - len(unsure) >= MOST_PIECES:
        raise TooWide(MOST_PIECES + 1)
    return value_in(unsure[0])


def span(house, form, *given):
    """The set of the values that a form has, and a tree that shows that it has no others."""
    problem = problem_of(house, given, form.names())
    place = ("given", len(given))
    found = Pieces.none()
    missing = []
    while True:
        value = value_to_ask(found, missing)
        asked = ~found if value is None else Pieces.point(value)
        kind, answer = solve(problem.with_demands((place, ways_into(asked, form))))
        if kind == "world":
            found = found | Pieces(stretch_around(problem, answer, form))
        elif value is None:
            return (found, answer)
        else:
            missing.append(value)


def rank_span(house, place, target, *forms):
    """The set of the values of what stands at this place in ascending order, minus the target."""
    if len(forms) == 0:
        raise BadNumber(place)
    found = Pieces.none()
    for index, form in enumerate(forms):
        pieces, _ = span(house, form - target, ranked(list(forms), place, index))
        found = found | pieces
    return found


def signs_in(forms, world):
    """The tuple of the signs of the values of the forms in a world."""
    return tuple([compare(form(world), (0, 1)) for form in forms])


def signed_row(form, sign):
    """The row that the value of the form has this sign."""
    if sign == 0:
        return (form, "=")
    return (form, "<") if sign < 0 else (-form, "<")


def world_signed(problem, forms, signs):
    """A world in which the first forms have these signs, or None."""
    rows = [signed_row(form, sign) for form, sign in zip(forms, signs)]
    return world_of(problem.with_demands((None, [rows])))


def signings(house, *forms):
    """The tuples of signs that the values of the forms have together, each with a world."""
    if len(forms) > MOST_SIGNED:
        raise TooMany("forms", MOST_SIGNED)
    names = [name for form in forms for name in form.names()]
    problem = problem_of(house, (), names)
    known = {}
    todo = [()]
    while len(todo) > 0:
        signs = todo.pop()
        worlds = [world for full, world in known.items() if full[:len(signs)] == signs]
        world = worlds[0] if len(worlds) > 0 else world_signed(problem, forms, signs)
        if world is not None:
            known[signs_in(forms, world)] = world
            if len(signs) == len(forms):
                yield (signs, dict(world))
            else:
                todo.extend([(*signs, sign) for sign in (1, 0, -1)])
