"""Tables: they stop a run of tries, and say what its tries tell."""

from metehouse.errors import BadNumber, BadTable, BadTries

MOST_TRIES = 12
MOST_RACE = 5
WORDS = ("reached", "missed", "unsure")


def counts_met(limit, marks):
    """The counts (reached, missed) that tries can reach which go on until their counts are marked."""
    found = [(0, 0)]
    now = [(0, 0)]
    for _ in range(limit):
        ahead = {}
        for reached, missed in now:
            if (reached, missed) not in marks:
                ahead[(reached + 1, missed)] = True
                ahead[(reached, missed + 1)] = True
        now = list(ahead)
        found.extend(now)
    return sorted(found)


def tries_to(met, marks, count):
    """Tries that reach a count that was met without a stop before."""
    tries = ""
    reached, missed = count
    while reached + missed > 0:
        before = (reached - 1, missed)
        if before in met and before not in marks:
            reached -= 1
            tries = "r" + tries
        else:
            missed -= 1
            tries = "m" + tries
    return tries


def refuted(reached, missed, word, wrong):
    """The truth for which the word is false at a count with at most so many misread tries, or None."""
    if word == "missed" and missed <= wrong:
        return "reached"
    return "missed" if word == "reached" and reached <= wrong else None


def write_table(limit, marks):
    """The written form of a table."""
    words = [str(limit)]
    for reached, missed in sorted(list(marks)):
        words.extend([str(reached), str(missed), marks[(reached, missed)]])
    return " ".join(words)


class Table:
    """Counts of reached and missed tries at which a run stops, with a word for each; it never changes."""

    def __init__(self, limit, ends):
        if not 1 <= limit <= MOST_TRIES:
            raise BadTable("limit")
        for reached, missed in ends:
            if reached < 0 or missed < 0 or not 1 <= reached + missed <= limit:
                raise BadTable("count")
        for word in ends.values():
            if word not in WORDS:
                raise BadTable("word")
        for reached, missed in counts_met(limit, ends):
            if reached + missed == limit and (reached, missed) not in ends:
                raise BadTable("gap")
        self.limit = limit
        self.marks = {count: word for count, word in ends.items()}

    @classmethod
    def race(cls, wrong):
        """The table that stops once the reached or the missed tries are more than wrong."""
        if not 0 <= wrong <= MOST_RACE:
            raise BadNumber(wrong)
        ends = {(wrong + 1, missed): "reached" for missed in range(wrong + 1)}
        for reached in range(wrong + 1):
            ends[(reached, wrong + 1)] = "missed"
        return cls(2 * wrong + 1, ends)

    def ends(self):
        """The dict from counts to words."""
        return {count: word for count, word in self.marks.items()}

    def word_after(self, tries):
        """The word at which the tries stop, or None."""
        reached, missed = 0, 0
        for one in tries:
            if one not in ("r", "m") or (reached, missed) in self.marks:
                raise BadTries(tries)
            if one == "r":
                reached += 1
            else:
                missed += 1
        return self.marks.get((reached, missed))

    def stops(self):
        """The counts at which tries can stop, each with its word, ascending."""
        met = counts_met(self.limit, self.marks)
        return [(*count, self.marks[count]) for count in met if count in self.marks]

    def sound(self, wrong):
        """None if no word can be false, otherwise tries with a false word, and the truth."""
        if wrong < 0:
            raise BadNumber(wrong)
        met = counts_met(self.limit, self.marks)
        for reached, missed, word in self.stops():
            truth = refuted(reached, missed, word, wrong)
            if truth is not None:
                return (tries_to(met, self.marks, (reached, missed)), truth)
        return None

    def longest(self, wrong):
        """The greatest number of tries of a run of which at most so many are misread."""
        if wrong < 0:
            raise BadNumber(wrong)
        return max([reached + missed for reached, missed, _ in self.stops() if reached <= wrong or missed <= wrong])

    def softened(self, wrong):
        """The table with "unsure" instead of each word that can be false."""
        if wrong < 0:
            raise BadNumber(wrong)
        ends = self.ends()
        for reached, missed, word in self.stops():
            if refuted(reached, missed, word, wrong) is not None:
                ends[(reached, missed)] = "unsure"
        return Table(self.limit, ends)

    def __eq__(self, other):
        return isinstance(other, Table) and self.limit == other.limit and self.marks == other.marks

    def __str__(self):
        return str(write_table(self.limit, self.marks))
