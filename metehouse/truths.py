"""What holds in a world: each row of a problem is looked at once, however often it stands there."""

from math import lcm


def whole_world(world):
    """The world as integers over one bottom: the pair (bottom, levels)."""
    bottom = 1
    for _, below in world.values():
        bottom = lcm(bottom, below)
    return bottom, {name: top * (bottom // below) for name, (top, below) in world.items()}


def row_true(row, bottom, levels):
    """True if the row holds in a whole world."""
    form, sign = row
    total = form.constant * bottom
    for name, weight in form.terms:
        total += weight * levels[name]
    if sign == "<=":
        return total <= 0
    return total < 0 if sign == "<" else total == 0


class Truths:
    """The rows of several demands, with numbers, and what holds in the world that is looked at."""

    def __init__(self, demands):
        self.rows = []
        self.numbers = {}
        # For each demand and each of its ways the numbers of the rows.
        self.numbered = [[self.numbers_of(way) for way in demand.choices] for demand in demands]
        self.bottom = 1
        self.whole = {}
        self.known = []

    def numbers_of(self, way):
        """The numbers of the rows of a way."""
        found = []
        for form, sign in way:
            key = (form.terms, form.constant, sign)
            if key not in self.numbers:
                self.numbers[key] = len(self.rows)
                self.rows.append((form, sign))
            found.append(self.numbers[key])
        return found

    def look_at(self, world):
        """Look at another world from now on."""
        self.bottom, self.whole = whole_world(world)
        self.known = [None for _ in self.rows]

    def all_hold(self, numbers):
        """True if the rows with these numbers hold."""
        for number in numbers:
            if self.known[number] is None:
                self.known[number] = row_true(self.rows[number], self.bottom, self.whole)
            if not self.known[number]:
                return False
        return True

    def way_of(self, index):
        """The index of the first way in which a demand holds, or None."""
        for way, numbers in enumerate(self.numbered[index]):
            if self.all_hold(numbers):
                return way
        return None
