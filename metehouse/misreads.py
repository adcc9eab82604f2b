"""Misread trials: which trials a net does not allow together, and the fewest that were misread."""

from metehouse.closures import Closure
from metehouse.errors import BadLimit, NoQuantity, TooMany
from metehouse.exact import ratio
from metehouse.nets import Net
from metehouse.pieces import Pieces, value_in

MOST_TRIALS = 16


def closure_of(net, trials):
    """The closure of the net, after the errors that all functions of this file raise."""
    if len(trials) > MOST_TRIALS:
        raise TooMany("trials", MOST_TRIALS)
    names = net.names()
    for name, _, _ in trials:
        if name not in names:
            raise NoQuantity(name)
    return Closure(net)


def always_misread(closure, trial):
    """True if every world misreads the trial."""
    name, word, height = trial
    if word == "missed":
        above = closure.bound(None, name)
        return above is not None and above[0] <= height
    below = closure.bound(name, None)
    if below is None:
        return False
    return -below[0] > height or -below[0] == height and below[1] == "<"


def cannot_both(closure, missed, reached):
    """True if no world agrees with a missed and a reached trial, and the net alone forbids neither."""
    rise = closure.bound(reached[0], missed[0])
    return rise is not None and reached[2] + rise[0] <= missed[2]


def one_misread(closure, missed, reached):
    """True if every world misreads at least one of the two trials, a missed and a reached one."""
    if always_misread(closure, missed) or always_misread(closure, reached):
        return True
    return cannot_both(closure, missed, reached)


def is_blame(net, trials, blame):
    """True if a tuple of integers is a blame."""
    closure = closure_of(net, trials)
    if not 1 <= len(blame) <= 2 or not all([0 <= index < len(trials) for index in blame]):
        return False
    if len(blame) == 1:
        return always_misread(closure, trials[blame[0]])
    missed, reached = trials[blame[0]], trials[blame[1]]
    return missed[1] == "missed" and reached[1] == "reached" and one_misread(closure, missed, reached)


def lone_blames(closure, trials):
    """The ascending list of the indexes of the trials that every world misreads."""
    return [index for index, trial in enumerate(trials) if always_misread(closure, trial)]


def pairs_of(closure, trials, left_out):
    """The pairs (m, r) of other trials of which every world misreads at least one."""
    kept = [index for index in range(len(trials)) if index not in left_out]
    missed = [index for index in kept if trials[index][1] == "missed"]
    reached = [index for index in kept if trials[index][1] == "reached"]
    return [(m, r) for m in missed for r in reached if cannot_both(closure, trials[m], trials[r])]


def find_partner(pairs, start, partners, seen):
    """Match a missed trial, moving others to further partners if needed; True if that can be done."""
    for m, r in pairs:
        if m == start and r not in seen:
            seen[r] = True
            if r not in partners or find_partner(pairs, partners[r], partners, seen):
                partners[r] = m
                return True
    return False


def matched(pairs):
    """The greatest matching of the pairs, a dict from reached trials to missed ones."""
    partners = {}
    starts = {m: True for m, _ in pairs}
    for start in list(starts):
        find_partner(pairs, start, partners, {})
    return partners


def cover_of(pairs):
    """As few trials as the greatest matching has pairs, so that each pair has one of them."""
    partners = matched(pairs)
    taken = list(partners.values())
    left, right = {m: True for m, _ in pairs if m not in taken}, {}
    todo = list(left)
    while todo:
        start = todo[0]
        todo = todo[1:]
        for m, r in pairs:
            if m == start and r not in right:
                right[r] = True
                # A reached trial without a partner would make the matching greater.
                if partners[r] not in left:
                    left[partners[r]] = True
                    todo.append(partners[r])
    return list(right) + [m for m in taken if m not in left]


def fewest_misread(net, trials):
    """The least number of trials that a world misreads."""
    return len(find_blames(net, trials))


def find_blames(net, trials):
    """As many blames as possible of which no two have a trial in common."""
    closure = closure_of(net, trials)
    alone = lone_blames(closure, trials)
    partners = matched(pairs_of(closure, trials, alone))
    return [(index,) for index in alone] + [(m, r) for r, m in partners.items()]


def find_suspects(net, trials):
    """An ascending list of as few trials as possible that some world misreads alone."""
    closure = closure_of(net, trials)
    alone = lone_blames(closure, trials)
    return sorted(alone + cover_of(pairs_of(closure, trials, alone)))


def trial_limit(trial):
    """The limit of a net that says the same as a trial."""
    name, word, height = trial
    return (None, name, height, "<=") if word == "reached" else (name, None, -height, "<")


def best_world(net, trials):
    """A world that misreads as few trials as possible."""
    suspects = find_suspects(net, trials)
    limits = [trial_limit(trial) for index, trial in enumerate(trials) if index not in suspects]
    return (net + Net(limits)).levels()


def room_beside(closure, name, trial):
    """The set of the levels of a name that the net and the trial leave, as far as the trial bounds it."""
    own, word, height = trial
    if word == "reached":
        rise = closure.bound(own, name)
        return Pieces.every() if rise is None else Pieces((None, False, ratio(height + rise[0]), rise[1] == "<="))
    rise = closure.bound(name, own)
    return Pieces.every() if rise is None else Pieces((ratio(height - rise[0]), False, None, False))


def stretches_at(sets):
    """The stretches into which the ends of several sets, integers, cut all values."""
    tops = {}
    for pieces in sets:
        for low, _, high, _ in pieces.parts:
            for end in (low, high):
                if end is not None:
                    tops[end[0]] = True
    found = []
    last = None
    for top in sorted(list(tops)):
        found.append((last, False, (top, 1), False))
        found.append(((top, 1), True, (top, 1), True))
        last = (top, 1)
    return [*found, (last, False, None, False)]


def heights(net, trials, name, most):
    """The set of the levels of a name in the worlds that misread at most so many trials."""
    closure = closure_of(net, trials)
    if name not in closure.names():
        raise NoQuantity(name)
    if most < 0:
        raise BadLimit(most)
    alone = lone_blames(closure, trials)
    pairs = pairs_of(closure, trials, alone)
    whole = closure.room(name)
    rooms = [Pieces.none() if index in alone else room_beside(closure, name, trial)
             for index, trial in enumerate(trials)]
    found = []
    for stretch in stretches_at([whole, *rooms]):
        value = value_in(stretch)
        # A level of the name leaves the other pairs as they are, but it can misread trials by itself.
        out = {index: True for index, room in enumerate(rooms) if value not in room}
        rest = [(m, r) for m, r in pairs if m not in out and r not in out]
        if value in whole and len(out) + len(matched(rest)) <= most:
            found.append(stretch)
    return Pieces(*found)
