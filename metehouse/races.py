"""The quickest sound tables: races that are cut at a limit."""

from metehouse.errors import BadNumber, BadTable
from metehouse.tables import MOST_TRIES, Table


def quickest(wrong, limit):
    """The race for so many misread tries, cut at the limit with the word "unsure"."""
    if wrong < 0:
        raise BadNumber(wrong)
    if not 1 <= limit <= MOST_TRIES:
        raise BadTable("limit")
    # No count of a table has more tries than its limit, so a greater number says the same.
    few = min(wrong, limit)
    ends = {}
    for other in range(min(few, limit - few - 1) + 1):
        ends[(few + 1, other)] = "reached"
        ends[(other, few + 1)] = "missed"
    for reached in range(limit + 1):
        if reached <= few and limit - reached <= few:
            ends[(reached, limit - reached)] = "unsure"
    return Table(limit, ends)
