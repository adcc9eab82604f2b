"""One case: rows that hold together, and the integer weights that show that they cannot."""

from math import gcd, lcm

from metehouse.exact import plus, ratio
from metehouse.forms import all_names, need_levels
from metehouse.tableau import Tableau


def row_holds(value, sign):
    """True if a value of the form of a row is as its sign says."""
    if sign == "<=":
        return value <= 0
    return value < 0 if sign == "<" else value == 0


def holds(rows, world):
    """True if all rows hold in the world."""
    need_levels(all_names([form for form, _ in rows]), world)
    return all([row_holds(form(world)[0], sign) for form, sign in rows])


def weighed(rows, weights):
    """The sum of the forms, each times its weight: its weights that are not 0, and its constant."""
    sums, constant = {}, 0
    for (form, _), weight in zip(rows, weights):
        for name, part in form.terms:
            sums[name] = sums.get(name, 0) + part * weight
        constant = constant + form.constant * weight
    return {name: total for name, total in sums.items() if total != 0}, constant


def closes(rows, weights):
    """True if the weights show that no world satisfies all rows."""
    if len(weights) != len(rows):
        return False
    for (_, sign), weight in zip(rows, weights):
        if sign != "=" and weight < 0:
            return False
    terms, constant = weighed(rows, weights)
    if terms or constant < 0:
        return False
    strict = [weight > 0 for (_, sign), weight in zip(rows, weights) if sign == "<"]
    return constant > 0 or any(strict)


def bounded(rows, names):
    """A tableau over the quantities with all rows."""
    tableau = Tableau(names)
    for index, (form, sign) in enumerate(rows):
        tableau.bound_by(index, form, sign)
    return tableau


def whole_weights(entries, count, scale):
    """The scale, and an integer for each row, from triples (row, top, factor), in lowest terms."""
    whole = 1
    for _, _, factor in entries:
        whole = lcm(whole, factor)
    weights = [0 for _ in range(count)]
    for row, top, factor in entries:
        weights[row] = weights[row] + top * (whole // factor)
    divisor = scale * whole
    for weight in weights:
        divisor = gcd(divisor, weight)
    return scale * whole // divisor, [weight // divisor for weight in weights]


def settle(rows):
    """A world that satisfies all rows, or weights that close them."""
    tableau = bounded(rows, all_names([form for form, _ in rows]))
    entries = tableau.fit()
    if entries is not None:
        # The sum of the rows needs no scale; 0 lets the weights alone be in lowest terms.
        return ("weights", whole_weights(entries, len(rows), 0)[1])
    return ("world", tableau.world(tableau.small_enough()))


def greatest(rows, form):
    """How great the value of a form can be in the worlds that satisfy all rows."""
    forms = [own for own, _ in rows]
    tableau = bounded(rows, all_names([*forms, form]))
    entries = tableau.fit()
    if entries is not None:
        return ("none", whole_weights(entries, len(rows), 0)[1])
    goal = tableau.new_basic(form.terms)
    ray = tableau.climb(goal)
    world = tableau.world(tableau.small_enough())
    if ray is not None:
        part, direction = ray
        return ("free", world, tableau.all_moves(part, direction))
    scale, weights = whole_weights(tableau.stoppers(goal, 1), len(rows), tableau.basis[goal][0])
    top, tiny, bottom = tableau.worth[goal]
    value = plus(ratio(top, bottom), (form.constant, 1))
    if tiny == 0:
        return ("most", value, world, scale, weights)
    return ("below", value, world, tableau.world((0, 1)), scale, weights)
