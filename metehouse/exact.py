"""Exact arithmetic with integers and ratios."""

from math import gcd


def common(*numbers):
    """The greatest common divisor of any number of integers, 0 if there is none."""
    found = 0
    for number in numbers:
        found = gcd(found, number)
    return found


def ratio(top, bottom=1):
    """The ratio of two integers, in lowest terms and with a positive bottom."""
    if bottom == 0:
        raise ZeroDivisionError("a ratio has no bottom of 0")
    divisor = gcd(top, bottom)
    if bottom < 0:
        divisor = -divisor
    return (top // divisor, bottom // divisor)


def compare(first, second):
    """-1, 0 or 1: the first ratio is less than, equal to or greater than the second one."""
    left = first[0] * second[1]
    right = second[0] * first[1]
    if left == right:
        return 0
    return -1 if left < right else 1


def plus(first, second):
    """The sum of two ratios."""
    return ratio(first[0] * second[1] + second[0] * first[1], first[1] * second[1])


def times(first, second):
    """The product of two ratios."""
    return ratio(first[0] * second[0], first[1] * second[1])
