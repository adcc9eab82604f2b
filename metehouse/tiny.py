"""Numbers with a tiny part, triples (top, tiny, bottom): top + tiny * e, divided by bottom.

The e is positive and less than every positive ratio. So "less than 0" can be said as
"at most -e", and one method serves rows of all signs.
"""

from math import gcd

NOUGHT = (0, 0, 1)


def order(first, second):
    """Negative, 0 or positive: the first number is less than, equal to or greater than the second one."""
    gap = first[0] * second[2] - second[0] * first[2]
    if gap != 0:
        return gap
    return first[1] * second[2] - second[1] * first[2]


def lean(top, tiny, bottom):
    """The number in lowest terms; the bottom is not 0."""
    divisor = gcd(gcd(top, tiny), bottom)
    if bottom < 0:
        divisor = -divisor
    return (top // divisor, tiny // divisor, bottom // divisor)


def distance(first, second):
    """The first number minus the second one."""
    top = first[0] * second[2] - second[0] * first[2]
    tiny = first[1] * second[2] - second[1] * first[2]
    return lean(top, tiny, first[2] * second[2])


def scaled(number, top, bottom):
    """The number times top, divided by bottom."""
    return lean(number[0] * top, number[1] * top, number[2] * bottom)


def moved(number, step, top, bottom):
    """The number plus the step times top, divided by bottom."""
    step_bottom = step[2] * bottom
    if number[2] == step_bottom:
        return lean(number[0] + step[0] * top, number[1] + step[1] * top, step_bottom)
    head = number[0] * step_bottom + step[0] * top * number[2]
    tail = number[1] * step_bottom + step[1] * top * number[2]
    return lean(head, tail, number[2] * step_bottom)
