"""Tunings: the ways in which all strikes can rise and fall together."""

from metehouse.errors import NoBlock
from metehouse.strikes import across


def spread(rows, rises, levels, start):
    """The levels and those of all quantities that the strikes join with the start; None if two do not agree."""
    found = {name: level for name, level in levels.items()}
    todo = [start]
    while todo:
        name = todo[0]
        todo = todo[1:]
        for row, rise in zip(rows, rises):
            other = across(row, name)
            if other is not None:
                level = found[name] + rise * row[2] * (1 if name == row[0] else -1)
                if other not in found:
                    todo.append(other)
                    found[other] = level
                elif found[other] != level:
                    return None
    return found


def levels_with(rows, rises):
    """Integer levels with these rises in which the strikes are exact, or None; the least names have 0."""
    levels = {}
    for name in sorted([row[0] for row in rows] + [row[1] for row in rows]):
        if levels is not None and name not in levels:
            levels[name] = 0
            levels = spread(rows, rises, levels, name)
    return levels


def all_tunings(rows):
    """The list of the tuples of rises of all tunings, ascending."""
    found = [()]
    for index, (_, _, count) in enumerate(rows):
        longer = [rises + (rise,) for rises in found for rise in ((0,) if count == 0 else (-1, 1))]
        found = [rises for rises in longer if levels_with(rows[:index + 1], rises) is not None]
    return found


def tunings(strikes):
    """Each tuning with a world in which all strikes are exact; the first level of each lot is 0."""
    for rises in all_tunings(strikes.rows):
        levels = levels_with(strikes.rows, rises)
        yield (rises, {name: (level, 1) for name, level in levels.items()})


def count_tunings(strikes):
    """The number of tunings: the product of those of the blocks."""
    product = 1
    for block in strikes.blocks():
        product = product * len(all_tunings([strikes.rows[index] for index in block]))
    return product


def turned(strikes, rises, index):
    """The rises with those of one block negated."""
    blocks = strikes.blocks()
    if not 0 <= index < len(blocks):
        raise NoBlock(index)
    return tuple([-rise if at in blocks[index] else rise for at, rise in enumerate(rises)])


def possible_beats(strikes, first, second):
    """The distances of two quantities over all tunings, ascending."""
    strikes.walk(first, second)
    found = {}
    for _, world in tunings(strikes):
        found[abs(world[second][0] - world[first][0])] = True
    return sorted(list(found))
