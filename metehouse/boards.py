"""Boards: what the sections of a house know of some claims, and tell one another."""

from metehouse.cases import shows, solve
from metehouse.checking import checks
from metehouse.claims import Not
from metehouse.errors import NotSure, TooMany
from metehouse.judging import judge
from metehouse.problems import problem_of

MOST_SLIPS = 8


class Lot:
    """The slips that are known, the steps by which they came to be known, and worlds for those in doubt."""

    def __init__(self, known, steps, doubts):
        self.known = known
        self.steps = steps
        self.doubts = doubts


def need_slips(slips):
    """The negations of the slips; raise an error if a board cannot have them."""
    if len(slips) > MOST_SLIPS:
        raise TooMany("slips", MOST_SLIPS)
    return [Not(slip) for slip in slips]


class Board:
    """The parts of a house, what they brought so far, and worlds in which slips fail."""

    def __init__(self, house, slips):
        self.slips = slips
        self.negations = need_slips(slips)
        self.parts = {section: house.part(section) for section in house.sections()}
        self.labels = [name for slip in slips for name in slip.names()]
        self.steps = []
        self.known = []
        self.worlds = [{} for _ in slips]

    def in_doubt(self):
        """The indexes of the slips that are not known."""
        return [index for index in range(len(self.slips)) if index not in self.known]

    def brings(self, index, section):
        """True if the section brings the slip from those that are known; it is known then, too."""
        known = [self.slips[other] for other in self.known]
        world = self.worlds[index].get(section)
        if world is not None and all([slip(world) for slip in known]):
            return False
        given = [*known, self.negations[index]]
        kind, found = solve(problem_of(self.parts[section], given, self.labels))
        if kind == "world":
            self.worlds[index][section] = found
            return False
        self.steps.append((index, section, tuple(self.known), found))
        self.known.append(index)
        return True

    def is_brought(self, index):
        """True if some section brings the slip."""
        for section in self.parts:
            if self.brings(index, section):
                return True
        return False

    def fill(self):
        """Find all slips that are known; each time one is brought, the others are asked again."""
        found = True
        while found:
            found = False
            for index in self.in_doubt():
                if self.is_brought(index):
                    found = True


def board(house, slips):
    """What the sections know of the slips."""
    own = Board(house, slips)
    own.fill()
    doubts = {index: own.worlds[index] for index in own.in_doubt()}
    return Lot(tuple(sorted(own.known)), own.steps, doubts)


def brought_right(own, step, earlier):
    """True if a step shows that its section brings its slip from slips of earlier steps."""
    index, section, used, tree = step
    if index not in own.in_doubt() or index in earlier or section not in own.parts:
        return False
    if not all([other in earlier for other in used]):
        return False
    given = [own.slips[other] for other in used]
    given.append(own.negations[index])
    return checks(own.parts[section], tree, *given)


def doubt_right(own, known, index, worlds):
    """True if there is a right world for each section in which the slip fails although all known ones hold."""
    if len(worlds) != len(own.parts) or not all([section in worlds for section in own.parts]):
        return False
    claims = [own.slips[other] for other in known]
    claims.append(own.negations[index])
    return all([shows(worlds[section], part, *claims) for section, part in own.parts.items()])


def check_lot(house, slips, lot):
    """True if the lot is right for the slips."""
    own = Board(house, slips)
    earlier = []
    for step in lot.steps:
        if not brought_right(own, step, earlier):
            return False
        earlier.append(step[0])
    if lot.known != tuple(sorted(earlier)):
        return False
    left = [index for index in own.in_doubt() if index not in earlier]
    if len(lot.doubts) != len(left) or not all([index in lot.doubts for index in left]):
        return False
    return all([doubt_right(own, lot.known, index, lot.doubts[index]) for index in left])


def beyond(house, slips):
    """The slips in doubt that are sure in the house, each with the tree of its judgement."""
    found = []
    for index in sorted(list(board(house, slips).doubts)):
        verdict = judge(house, slips[index])
        if verdict[0] == "sure":
            found.append((index, verdict[1]))
    return found


def lend(house, claim, source, target):
    """Learn a claim in the target section that is sure in the source section; the index of the fact."""
    verdict = judge(house.part(source), claim)
    if verdict[0] != "sure":
        raise NotSure(verdict[0])
    return house.learn(claim, target)
