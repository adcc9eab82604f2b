"""Strikes: pairs of levels whose distances are counted, and how they hang together."""

from metehouse.claims import Either, Same
from metehouse.errors import BadName, BadNumber, NoBlock, NoQuantity, NoWalk, Taken, TooMany
from metehouse.exact import compare, plus
from metehouse.forms import Form, is_quantity, need_levels

MOST_STRIKES = 10


def check_row(first, second, count):
    """Raise the error of a row of strikes, if it has one."""
    if not is_quantity(first):
        raise BadName(first)
    if not is_quantity(second):
        raise BadName(second)
    if first == second:
        raise Taken(second)
    if count < 0:
        raise BadNumber(count)


def across(row, name):
    """The quantity at the other end of a strike, or None if the name is at neither."""
    first, second, _ = row
    if name == first:
        return second
    return first if name == second else None


def strikes_away(rows, indexes, goal):
    """For each quantity that these strikes join with the goal, how many of them lead there."""
    found = {goal: 0}
    todo = [goal]
    while todo:
        name = todo[0]
        todo = todo[1:]
        for index in indexes:
            other = across(rows[index], name)
            if other is not None and other not in found:
                found[other] = found[name] + 1
                todo.append(other)
    return found


def least_walk(rows, indexes, first, second):
    """The least of the shortest walks over these strikes, which ascend, or None."""
    away = strikes_away(rows, indexes, second)
    if first not in away:
        return None
    walk = []
    name = first
    while name != second:
        for index in indexes:
            other = across(rows[index], name)
            if other is not None and away[other] < away[name]:
                walk.append(index)
                name = other
                break
    return walk


def block_labels(rows):
    """A number for each strike; those of one block have the same one, their least index."""
    labels = list(range(len(rows)))
    forest = []
    for index, (first, second, _) in enumerate(rows):
        walk = least_walk(rows, forest, first, second)
        if walk is None:
            forest.append(index)
        else:
            # The strike closes a round with the only walk that the forest has, and such
            # rounds tie together all that any rounds tie together.
            tied = {labels[other]: True for other in [*walk, index]}
            kept = min(list(tied))
            labels = [kept if label in tied else label for label in labels]
    return labels


def level_gap(row, world):
    """The level of the second quantity of a strike minus that of the first one."""
    top, bottom = world[row[0]]
    return plus(world[row[1]], (-top, bottom))


class Strikes:
    """A list of struck pairs; it never changes."""

    def __init__(self, *rows):
        if len(rows) > MOST_STRIKES:
            raise TooMany("strikes", MOST_STRIKES)
        for first, second, count in rows:
            check_row(first, second, count)
        self.rows = tuple([(first, second, count) for first, second, count in rows])

    def names(self):
        """The quantities, ascending."""
        found = {}
        for first, second, _ in self.rows:
            found[first] = True
            found[second] = True
        return sorted(list(found))

    def claims(self):
        """The claims of the strikes, in order."""
        found = []
        for first, second, count in self.rows:
            found.append(Either(Same(Form.gap(second, first), count), Same(Form.gap(first, second), count)))
        return found

    def lots(self):
        """The lists of the quantities that strikes join."""
        indexes = list(range(len(self.rows)))
        found = []
        seen = {}
        for name in self.names():
            if name not in seen:
                lot = sorted(list(strikes_away(self.rows, indexes, name)))
                found.append(lot)
                for other in lot:
                    seen[other] = True
        return found

    def walk(self, first, second):
        """The least of the shortest walks from one quantity to another."""
        names = self.names()
        for name in (first, second):
            if name not in names:
                raise NoQuantity(name)
        found = least_walk(self.rows, list(range(len(self.rows))), first, second)
        if found is None:
            raise NoWalk(first, second)
        return found

    def blocks(self):
        """The lists of the indexes of the strikes that rounds tie together."""
        labels = block_labels(self.rows)
        found = []
        for label in range(len(labels)):
            if label in labels:
                found.append([index for index in range(len(labels)) if labels[index] == label])
        return found

    def block(self, index):
        """The strikes of one block alone."""
        blocks = self.blocks()
        if not 0 <= index < len(blocks):
            raise NoBlock(index)
        rows = [self.rows[at] for at in blocks[index]]
        return Strikes(*rows)

    def joints(self):
        """The quantities at which blocks meet, ascending."""
        labels = block_labels(self.rows)
        found = []
        for name in self.names():
            touched = {label: True for row, label in zip(self.rows, labels) if across(row, name) is not None}
            if len(touched) > 1:
                found.append(name)
        return found

    def rises(self, world):
        """For each strike whether the level rises, falls or stays from its first quantity to its second one."""
        need_levels(self.names(), world)
        return tuple([compare(world[second], world[first]) for first, second, _ in self.rows])

    def residues(self, world):
        """For each strike how much its distance differs from its count."""
        need_levels(self.names(), world)
        found = []
        for row in self.rows:
            top, bottom = level_gap(row, world)
            found.append(plus((abs(top), bottom), (-row[2], 1)))
        return tuple(found)

    def __add__(self, other):
        if not isinstance(other, Strikes):
            return NotImplemented
        rows = self.rows + other.rows
        return Strikes(*rows)

    def __eq__(self, other):
        return isinstance(other, Strikes) and self.rows == other.rows

    def __len__(self):
        return len(self.rows)
