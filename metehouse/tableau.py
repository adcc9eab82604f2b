"""Sums of quantities between bounds, brought within them by exact pivoting.

Each quantity and each sum that a row bounds is a variable with a number. Some variables
are basic: each of them is a sum of the others. A basic variable that is out of its bounds
changes its place with another one that can still move; the variable with the least
number is taken always (Bland's rule), so no arrangement comes twice and the search ends.
"""

from math import gcd, lcm

from metehouse.exact import compare, ratio
from metehouse.tiny import NOUGHT, distance, lean, moved, order, scaled


def normal(terms):
    """The factor of the terms, and the terms divided by it: their first weight is positive."""
    divisor = 0
    for _, weight in terms:
        divisor = gcd(divisor, weight)
    if terms[0][1] < 0:
        divisor = -divisor
    return divisor, tuple([(name, weight // divisor) for name, weight in terms])


def lean_sum(bottom, weights):
    """The pair of a bottom and the weights over it, in lowest terms."""
    divisor = bottom
    for weight in list(weights.values()):
        if divisor == 1:
            break
        divisor = gcd(divisor, weight)
    if divisor == 1:
        return (bottom, weights)
    return (bottom // divisor, {number: weight // divisor for number, weight in weights.items()})


def blended(weights, factor, more, more_factor, left_out=None):
    """The weights of two sums, each times its factor, added; one part of the first is left out."""
    total = {number: weight * factor for number, weight in weights.items() if number != left_out}
    for number, weight in more.items():
        found = total.get(number, 0) + weight * more_factor
        if found == 0:
            del total[number]
        else:
            total[number] = found
    return total


def lesser(least, gap):
    """The ratio least, or a smaller one with which the gap, which is at most 0, stays so."""
    top, tiny, _ = gap
    if tiny <= 0 or compare((-top, tiny), least) >= 0:
        return least
    return ratio(-top, tiny)


class Tableau:
    """Bounded variables, and basic ones as sums of the others.

    A bound is a triple (level, row, factor): the row with this index is the factor times
    the variable, plus its constant. A sum is a pair (bottom, weights).
    """

    def __init__(self, names):
        self.numbers = {name: number for number, name in enumerate(names)}
        self.known_sums = {}
        self.worth = [NOUGHT for _ in names]
        self.lows = [None for _ in names]
        self.highs = [None for _ in names]
        self.basis = {}
        self.broken = None
        self.sums = {}
        # Sums that have no bounds now: nothing is known of them, until they are asked for again.
        self.asleep = {}
        # Sums without bounds that others were written with when their bounds went.
        self.loose = {}
        # For each bound that came in: its variable, True for an upper one, and the bound before it.
        self.trail = []

    def variable(self, terms):
        """The number of the variable for these terms, which are normal."""
        if len(terms) == 1:
            return self.numbers[terms[0][0]]
        if terms not in self.known_sums:
            self.known_sums[terms] = self.new_basic(terms)
        number = self.known_sums[terms]
        if number in self.asleep:
            del self.asleep[number]
            self.make_basic(number)
        return number

    def new_basic(self, terms):
        """The number of a new basic variable, the sum of the terms."""
        number = len(self.worth)
        self.sums[number] = terms
        self.worth.append(NOUGHT)
        self.lows.append(None)
        self.highs.append(None)
        self.make_basic(number)
        return number

    def make_basic(self, number):
        """Make a sum basic: write it with the variables that are not."""
        bottom, weights = 1, {}
        for name, weight in self.sums[number]:
            part = self.numbers[name]
            part_bottom, part_weights = self.basis.get(part, (1, {part: 1}))
            whole = lcm(bottom, part_bottom)
            weights = blended(weights, whole // bottom, part_weights, weight * (whole // part_bottom))
            bottom = whole
        self.basis[number] = lean_sum(bottom, weights)
        self.worth[number] = self.sum_worth(number)

    def sum_worth(self, number):
        """The worth of a sum, from those of its quantities."""
        level = NOUGHT
        for name, weight in self.sums[number]:
            level = moved(level, self.worth[self.numbers[name]], weight, 1)
        return level

    def set_mark(self):
        """What `back` needs to take later bounds back; all variables are within their bounds now."""
        return (len(self.trail), list(self.worth))

    def back(self, mark):
        """Take back all bounds that came in since the mark; all variables are within theirs again."""
        count, worth = mark
        touched = {}
        while len(self.trail) > count:
            number, above, bound = self.trail.pop()
            touched[number] = True
            if above:
                self.highs[number] = bound
            else:
                self.lows[number] = bound
        self.worth = worth + self.worth[len(worth):]
        doubtful = [*touched, *self.loose]
        for number in doubtful:
            if number in self.sums and self.lows[number] is None and self.highs[number] is None:
                self.let_go(number)
        self.broken = None

    def let_go(self, number):
        """Forget a sum that has no bounds any more, or find its worth again if others are written with it."""
        if number in self.basis:
            del self.basis[number]
            self.asleep[number] = True
        elif number not in self.asleep:
            # It may have been asleep at the mark, which then does not know its worth.
            self.worth[number] = self.sum_worth(number)
            self.loose[number] = True

    def bound_by(self, row, form, sign):
        """Bound a variable by the row with this index: the form is at most 0, less than 0, or 0."""
        if len(form.terms) == 0:
            self.check_constant(row, form.constant, sign)
            return
        factor, terms = normal(form.terms)
        number = self.variable(terms)
        bound = (lean(-form.constant, -1 if sign == "<" else 0, factor), row, factor)
        if sign == "=" or factor > 0:
            high = self.highs[number]
            if high is None or order(bound[0], high[0]) < 0:
                self.trail.append((number, True, high))
                self.highs[number] = bound
        if sign == "=" or factor < 0:
            low = self.lows[number]
            if low is None or order(bound[0], low[0]) > 0:
                self.trail.append((number, False, low))
                self.lows[number] = bound
        self.keep_between(number)

    def check_constant(self, row, constant, sign):
        """A row without terms bounds nothing: it is true, or it breaks all rows by itself."""
        true = constant < 0 if sign == "<" else constant <= 0
        if sign == "=" and constant < 0:
            self.broken = [(row, -1, 1)]
        elif not true:
            self.broken = [(row, 1, 1)]

    def keep_between(self, number):
        """Move a variable that is not basic between its bounds, if they leave a level."""
        low, high = self.lows[number], self.highs[number]
        if low is not None and high is not None and order(low[0], high[0]) > 0:
            self.broken = [(low[1], -1, low[2]), (high[1], 1, high[2])]
        elif number not in self.basis and self.side(number) != 0:
            bound = high if self.side(number) > 0 else low
            self.shift(number, distance(bound[0], self.worth[number]))

    def side(self, number):
        """-1 if the variable is below its bounds, 1 if it is above them, otherwise 0."""
        low, high = self.lows[number], self.highs[number]
        if low is not None and order(self.worth[number], low[0]) < 0:
            return -1
        if high is not None and order(self.worth[number], high[0]) > 0:
            return 1
        return 0

    def can_move(self, number, direction):
        """True if the variable has room above it, or below it if the direction is negative."""
        if direction > 0:
            high = self.highs[number]
            return high is None or order(self.worth[number], high[0]) < 0
        low = self.lows[number]
        return low is None or order(self.worth[number], low[0]) > 0

    def shift(self, number, step):
        """Move a variable that is not basic by a step, and the basic ones with it."""
        self.worth[number] = moved(self.worth[number], step, 1, 1)
        for basic, (bottom, weights) in self.basis.items():
            if number in weights:
                self.worth[basic] = moved(self.worth[basic], step, weights[number], bottom)

    def pivot(self, leaving, entering):
        """Make the entering variable basic instead of the leaving one."""
        bottom, weights = self.basis[leaving]
        del self.basis[leaving]
        factor = weights[entering]
        sign = 1 if factor > 0 else -1
        rest = {number: -sign * weight for number, weight in weights.items() if number != entering}
        rest[leaving] = sign * bottom
        for basic in list(self.basis):
            row_bottom, row = self.basis[basic]
            if entering in row:
                divisor = gcd(factor, row[entering])
                own, more = abs(factor) // divisor, row[entering] // divisor
                self.basis[basic] = lean_sum(row_bottom * own, blended(row, own, rest, more, entering))
        self.basis[entering] = (abs(factor), rest)

    def fit(self):
        """None once all variables are within their bounds, or what shows that they cannot be.

        That is a list of triples (row, top, factor): the rows, each times top divided by
        factor, have a sum without terms that is too great.
        """
        while self.broken is None:
            number = self.first_outside()
            if number is None:
                return None
            self.bring_back(number)
        return self.broken

    def first_outside(self):
        """The least number of a basic variable that is out of its bounds, or None."""
        found = None
        for number in self.basis:
            if (found is None or number < found) and self.side(number) != 0:
                found = number
        return found

    def bring_back(self, number):
        """Put a basic variable on the bound that it has passed, or find out that it cannot get there."""
        direction = -self.side(number)
        level, row, factor = self.lows[number] if direction > 0 else self.highs[number]
        bottom, weights = self.basis[number]
        entering = self.first_mover(number, direction)
        if entering is None:
            self.broken = [*self.stoppers(number, direction), (row, -direction * bottom, factor)]
            return
        way = distance(level, self.worth[number])
        self.shift(entering, scaled(way, bottom, weights[entering]))
        self.pivot(number, entering)

    def first_mover(self, number, direction):
        """The least variable that can still carry a basic one in a direction, or None."""
        found = None
        for part, weight in self.basis[number][1].items():
            if (found is None or part < found) and self.can_move(part, weight * direction):
                found = part
        return found

    def stoppers(self, number, direction):
        """The bounds that keep a basic variable from moving on, as triples (row, top, factor)."""
        found = []
        for part, weight in self.basis[number][1].items():
            bound = self.highs[part] if weight * direction > 0 else self.lows[part]
            found.append((bound[1], weight * direction, bound[2]))
        return found

    def climb(self, number):
        """Raise a basic variable that has no bounds as far as it goes.

        None at the top; if there is no top, the pair of the variable that can move on
        for ever and its direction, 1 or -1.
        """
        while True:
            part = self.first_mover(number, 1)
            if part is None:
                return None
            direction = 1 if self.basis[number][1][part] > 0 else -1
            stop, step = self.first_stop(part, direction)
            if stop is None:
                return (part, direction)
            self.shift(part, scaled(step, direction, 1))
            if stop != part:
                self.pivot(stop, part)

    def first_stop(self, part, direction):
        """The variable that is the first on its bound when one moves, and the size of the step."""
        stop, least = None, None
        own = self.highs[part] if direction > 0 else self.lows[part]
        if own is not None:
            stop, least = part, scaled(distance(own[0], self.worth[part]), direction, 1)
        for basic in sorted(list(self.basis)):
            bottom, weights = self.basis[basic]
            rate = weights.get(part, 0) * direction
            bound = self.highs[basic] if rate > 0 else self.lows[basic]
            if rate != 0 and bound is not None:
                step = scaled(distance(bound[0], self.worth[basic]), bottom, rate)
                if least is None or order(step, least) < 0:
                    stop, least = basic, step
        return stop, least

    def all_moves(self, part, direction):
        """The integer moves of all quantities when a variable that is not basic moves on."""
        rates = {}
        for name, number in self.numbers.items():
            bottom, weights = self.basis.get(number, (1, {number: 1}))
            rates[name] = (weights.get(part, 0) * direction, bottom)
        whole = 1
        for _, bottom in rates.values():
            whole = lcm(whole, bottom)
        return {name: top * (whole // bottom) for name, (top, bottom) in rates.items()}

    def small_enough(self):
        """A ratio for e with which all levels keep their bounds."""
        least = (1, 1)
        for number, worth in enumerate(self.worth):
            low, high = self.lows[number], self.highs[number]
            if low is not None:
                least = lesser(least, distance(low[0], worth))
            if high is not None:
                least = lesser(least, distance(worth, high[0]))
        return least

    def world(self, tiny):
        """The levels of all quantities with this ratio for e."""
        found = {}
        for name, number in self.numbers.items():
            top, tail, bottom = self.worth[number]
            found[name] = ratio(top * tiny[1] + tail * tiny[0], bottom * tiny[1])
        return found
