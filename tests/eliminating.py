"""Plain elimination with fractions, to compare with; forms are taken without their constants."""

from fractions import Fraction
from math import gcd, lcm


def vector(form, names):
    weights = dict(form.terms)
    return [Fraction(weights.get(name, 0)) for name in names]


def quantities(*forms):
    return sorted({name for form in forms for name, _ in form.terms})


def solution(columns, target):
    """Numbers x with the sum of the columns times x equal to the target, or None; those that are free are 0."""
    size = len(columns)
    rows = [[column[k] for column in columns] + [target[k]] for k in range(len(target))]
    pivots = []
    for at in range(size):
        found = [k for k in range(len(pivots), len(rows)) if rows[k][at] != 0]
        if not found:
            continue
        k = len(pivots)
        rows[k], rows[found[0]] = rows[found[0]], rows[k]
        rows[k] = [value / rows[k][at] for value in rows[k]]
        for other in range(len(rows)):
            if other != k and rows[other][at] != 0:
                factor = rows[other][at]
                rows[other] = [a - factor * b for a, b in zip(rows[other], rows[k])]
        pivots.append(at)
    if any(row[-1] != 0 for row in rows[len(pivots):]):
        return None
    result = [Fraction(0)] * size
    for k, at in enumerate(pivots):
        result[at] = rows[k][-1]
    return result


def told(lines, target):
    names = quantities(*lines, target)
    return solution([vector(line, names) for line in lines], vector(target, names)) is not None


def plain_rings(lines):
    """The rings of point 40, each from one plain solution over the lines that are not spare."""
    names = quantities(*lines)
    kept, found = [], []
    for index, line in enumerate(lines):
        weights = solution([vector(lines[k], names) for k in kept], vector(line, names))
        if weights is None:
            kept.append(index)
            continue
        scale = lcm(*[weight.denominator for weight in weights])
        ring = [0] * len(lines)
        ring[index] = scale
        for k, weight in zip(kept, weights):
            ring[k] = int(-weight * scale)
        divisor = gcd(*ring)
        found.append([number // divisor for number in ring])
    return found


def change(form, moves):
    """How much the value of a form changes by the moves, integers or ratios."""
    total = Fraction(0)
    for name, weight in form.terms:
        move = moves[name]
        total += weight * (Fraction(*move) if isinstance(move, tuple) else move)
    return total
