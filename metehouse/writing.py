"""Writing: a house as a text of lines, and houses from lines."""

from metehouse.errors import BadLine, BadText, MeteError, RunRefused
from metehouse.house import House, write_telling
from metehouse.reading import number_of, read_claim, read_instrument

# The lines of a written house stand in this order; reading lines belong to their instruments.
RANKS = {"allow": 0, "place": 1, "read": 1, "learn": 2}


def write_house(house):
    """The house as a text of lines."""
    lines = [f"allow {budget} {most}" for budget, most in house.budgets().items()]
    for name in house.names():
        budget = house.budget_of(name)
        share = "-" if budget is None else budget
        lines.append(f"place {house.section_of(name)} {share} {house.instrument(name)}")
        lines.extend([f"read {name} {write_telling(told)}" for told in house.readings(name)])
    lines.extend([f"learn {section} {claim}" for section, claim in house.facts()])
    return "\n".join(lines)


def telling_of(word):
    """The telling that is written so."""
    if word == "-":
        return ""
    number = number_of(word)
    return word if number is None else number


def short_deed(words):
    """The deed of the words of an `allow`, a `read` or a `drop` line, or None."""
    if words[0] == "read":
        return ("read", words[1], telling_of(words[2]))
    number = number_of(words[2])
    if number is None or words[0] not in ("allow", "drop"):
        return None
    return (words[0], words[1], number)


def long_deed(line):
    """The deed of a `place` or a `learn` line, whose last part has spaces itself; or None."""
    head = line.split(" ", 3)
    try:
        if head[0] == "place" and len(head) == 4 and "" not in head:
            share = None if head[2] == "-" else head[2]
            return ("place", read_instrument(head[3]), head[1], share)
        head = line.split(" ", 2)
        if head[0] == "learn" and len(head) == 3 and "" not in head:
            return ("learn", read_claim(head[2]), head[1])
    except BadText:
        return None
    return None


def deed_of(line):
    """The deed of a line, or None if it is no line of a deed."""
    words = line.split(" ")
    if words[0] in ("place", "learn"):
        return long_deed(line)
    return short_deed(words) if len(words) == 3 and "" not in words else None


class Writ:
    """What a written house says, as far as it was read."""

    def __init__(self):
        self.house = House(limit=House.MOST_DEEDS)
        self.place_reached = 0
        self.latest = None

    def stands_wrong(self, deed):
        """True if the deed may not stand behind those before it in a written house."""
        if deed[0] not in RANKS or RANKS[deed[0]] < self.place_reached:
            return True
        if deed[0] == "allow":
            return deed[1] in self.house.budgets()
        return deed[0] == "read" and deed[1] != self.latest

    def add_deed(self, deed):
        """Do the deed."""
        self.house.do(*deed)
        self.place_reached = RANKS[deed[0]]
        if deed[0] == "place":
            self.latest = deed[1].name


def read_house(text):
    """The house that is written so."""
    writ = Writ()
    lines = [] if text == "" else text.split("\n")
    for index, line in enumerate(lines):
        deed = deed_of(line)
        if deed is None or writ.stands_wrong(deed):
            raise BadLine(index + 1)
        try:
            writ.add_deed(deed)
        except MeteError as error:
            raise BadLine(index + 1) from error
    return writ.house


def replay(lines):
    """A new house on which the deeds of the lines were done."""
    house = House(limit=House.MOST_DEEDS)
    for index, line in enumerate(lines):
        deed = deed_of(line)
        if deed is None:
            raise RunRefused(index) from BadText(line)
        try:
            house.do(*deed)
        except MeteError as error:
            raise RunRefused(index) from error
    return house


def roll(house):
    """A line for each instrument: name, section, budget, number of readings."""
    found = []
    for name in house.names():
        budget = house.budget_of(name)
        share = "-" if budget is None else budget
        count = len(house.readings(name))
        found.append(f"{name:<8} {house.section_of(name):<8} {share:<8} {count:>2}")
    return found
