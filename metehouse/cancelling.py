"""Lines that cancel: which sums of lines have no terms, and what the lines tell of a target."""

from math import lcm

from metehouse.errors import NotTold
from metehouse.exact import common, plus, times
from metehouse.forms import all_names
from metehouse.linear import greatest


def in_lowest_terms(terms, weights):
    """Both dicts, divided by the greatest common divisor of all their numbers."""
    numbers = list(terms.values()) + list(weights.values())
    divisor = common(*numbers)
    if divisor < 2:
        return terms, weights
    less = {key: number // divisor for key, number in terms.items()}
    return less, {key: number // divisor for key, number in weights.items()}


def sum_of(first, factor, second, more):
    """The first dict times the factor plus the second one times more, without zeros."""
    total = {key: number * factor for key, number in first.items()}
    for key, number in second.items():
        total[key] = total.get(key, 0) + number * more
    return {key: number for key, number in total.items() if number != 0}


class Echelon:
    """Lines taken one after another, each freed from the heads of those before.

    A line is a dict of weights. A step is a triple (head, terms, weights): the terms are
    the sum of the lines, each times its weight; no later step has the head among its terms.
    """

    def __init__(self):
        self.steps = []

    def freed(self, terms, index):
        """The terms without heads that are left of a line, and the weights of the lines that lead to them.

        The weight of the line itself, under its index, is greater than 0.
        """
        weights = {index: 1}
        for head, own_terms, own_weights in self.steps:
            if head in terms:
                divisor = common(own_terms[head], terms[head])
                factor, more = own_terms[head] // divisor, -terms[head] // divisor
                terms = sum_of(terms, factor, own_terms, more)
                weights = sum_of(weights, factor, own_weights, more)
                terms, weights = in_lowest_terms(terms, weights)
        return terms, weights

    def take(self, terms, index):
        """None if the line is a new step; if it is spare, the weights of the lines that cancel with it."""
        left, weights = self.freed(terms, index)
        if len(left) == 0:
            return weights
        head = min(list(left))
        # The number at a head is positive, so the weight of each later line stays so.
        sign = 1 if left[head] > 0 else -1
        left = {key: number * sign for key, number in left.items()}
        self.steps.append((head, left, {key: number * sign for key, number in weights.items()}))
        return None

    def shift(self, left, names):
        """Moves of the names that change no line, while the terms left, which have no heads, rise."""
        moves = {name: (0, 1) for name in names}
        start = min(list(left))
        moves[start] = (1, 1) if left[start] > 0 else (-1, 1)
        for head, terms, _ in self.steps[::-1]:
            total = (0, 1)
            for name, weight in terms.items():
                if name != head:
                    total = plus(total, times((weight, 1), moves[name]))
            moves[head] = times(total, (-1, terms[head]))
        return whole_moves(moves)


def whole_moves(moves):
    """Ratios as integers with the greatest common divisor 1; one of the ratios is 1 or -1."""
    whole = 1
    for _, bottom in moves.values():
        whole = lcm(whole, bottom)
    # The 1 becomes whole, and whole is the least number that all bottoms divide, so
    # nothing is left to divide by.
    return {name: top * (whole // bottom) for name, (top, bottom) in moves.items()}


def echelon_of(lines):
    """An echelon that has taken all lines."""
    echelon = Echelon()
    for index, line in enumerate(lines):
        echelon.take(dict(line.terms), index)
    return echelon


def cancel(lines, target):
    """The weights with which the lines tell the target, or a shift that no line sees."""
    echelon = echelon_of(lines)
    size = len(lines)
    left, weights = echelon.freed(dict(target.terms), size)
    if len(left) > 0:
        return ("shift", echelon.shift(left, all_names([*lines, target])))
    return ("weights", weights[size], [-weights.get(index, 0) for index in range(size)])


def rings(lines):
    """For each spare line the weights with which it cancels with the lines before it."""
    echelon = Echelon()
    for index, line in enumerate(lines):
        weights = echelon.take(dict(line.terms), index)
        if weights is not None:
            yield [weights.get(other, 0) for other in range(len(lines))]


def rank(lines):
    """The number of lines that are not spare."""
    return len(echelon_of(lines).steps)


def steady(lines, target):
    """The weights for a target that carry the least error, and the moves that carry so much."""
    found = cancel(lines, target)
    if found[0] == "shift":
        raise NotTold(found[1])
    rows = []
    for line in lines:
        bare = line - line.constant
        rows.append((bare - 1, "<="))
        rows.append((-bare - 1, "<="))
    # The sum of the weights of the rows is the spread times the scale, so for no line
    # both of its rows have a weight.
    _, spread, moves, scale, weights = greatest(rows, target - target.constant)
    return (spread, scale, [weights[2 * at] - weights[2 * at + 1] for at in range(len(lines))], moves)
