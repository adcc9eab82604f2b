"""Misread trials: points 62 and 63, compared with a plain count over all sets of trials."""

import random
from itertools import combinations

from metehouse.claims import AtMost, Below, Both
from metehouse.errors import BadLimit, NoNet, NoQuantity, TooMany
from metehouse.forms import Form
from metehouse.linear import settle
from metehouse.misreads import best_world, fewest_misread, find_blames, find_suspects, heights, is_blame
from metehouse.nets import Net
from metehouse.pieces import Pieces
from tests.helping import Case
from tests.netting import is_ring, open_net
from tests.sampling import candidates, ends_of, faults

HUGE = 10 ** 30 - 1


def trial_claim(trial):
    name, word, height = trial
    form = Form.one(name)
    return AtMost(form, height) if word == "reached" else Below(height - form)


def can_agree(net, trials, *more):
    """True if some world satisfies the net and agrees with all these trials."""
    claims = [*net.claims(), *[trial_claim(trial) for trial in trials], *more]
    return settle([row for claim in claims for row in Both(claim).ways()[0]])[0] == "world"


def plain_sets(net, trials, *more):
    """All sets of trials that can be left out, so that a world agrees with the others, by size."""
    for count in range(len(trials) + 1):
        found = [out for out in combinations(range(len(trials)), count)
                 if can_agree(net, [trial for k, trial in enumerate(trials) if k not in out], *more)]
        if found:
            return count, found
    return None, []


def plain_blame(net, trials, blame):
    if len(blame) == 1:
        return not can_agree(net, [trials[blame[0]]])
    missed, reached = [trials[index] for index in blame]
    return missed[1] == "missed" and reached[1] == "reached" and not can_agree(net, [missed, reached])


def some_trials(chance, net, count, top=6):
    names = net.names()
    return [(chance.choice(names), chance.choice(["reached", "missed"]), chance.randint(-top, top))
            for _ in range(count)]


def some_case(chance, count):
    net = open_net(chance, chance.randint(2, 6), "abc")
    while not net.names():
        net = open_net(chance, chance.randint(2, 6), "abc")
    return net, some_trials(chance, net, count)


class Misreads(Case):
    def check_answers(self, net, trials, most):
        self.assertEqual(fewest_misread(net, trials), most)
        blames = find_blames(net, trials)
        self.assertEqual(len(blames), most)
        used = [index for blame in blames for index in blame]
        self.assertEqual(len(used), len(set(used)))
        for blame in blames:
            self.assertKind(blame, tuple)
            self.assertTrue(is_blame(net, trials, blame))
            self.assertTrue(plain_blame(net, trials, blame))
        suspects = find_suspects(net, trials)
        self.assertEqual((suspects, len(suspects)), (sorted(set(suspects)), most))
        self.assertTrue(can_agree(net, [trial for k, trial in enumerate(trials) if k not in suspects]))
        world = best_world(net, trials)
        self.assertEqual(sorted(world), net.names())
        self.assertTrue(all(claim(world) for claim in net.claims()))
        self.assertEqual(sum(not trial_claim(trial)(world) for trial in trials), most)


class TestMisreads(Misreads):
    NET = Net.fence("w", 2, 2) + Net.box("w.0", 0, 20)
    TRIALS = [("w.0", "missed", 9), ("w.1", "reached", 5)]

    def test_plain(self):
        self.check_answers(self.NET, self.TRIALS, 1)
        self.assertEqual(find_blames(self.NET, self.TRIALS), [(0, 1)])
        self.assertEqual(fewest_misread(self.NET, self.TRIALS[:1]), 0)
        self.check_answers(self.NET, [], 0)
        self.check_answers(Net(), [], 0)

    def test_blames_of_one_trial(self):
        net = Net.box("a", 3, 5) + Net([("b", None, -3, "<"), (None, "b", 5, "<")])
        for name, closed in (("a", True), ("b", False)):
            self.assertEqual(is_blame(net, [(name, "reached", 3)], (0,)), not closed)
            self.assertTrue(is_blame(net, [(name, "reached", 2)], (0,)))
            self.assertTrue(is_blame(net, [(name, "missed", 5)], (0,)))
            self.assertTrue(is_blame(net, [(name, "missed", 6)], (0,)))
            self.assertFalse(is_blame(net, [(name, "missed", 4)], (0,)))
            self.assertFalse(is_blame(net, [(name, "reached", 4)], (0,)))
        trials = [("a", "reached", 2), ("a", "missed", 5), ("b", "reached", 3), ("a", "reached", 4)]
        self.check_answers(net, trials, 3)
        self.assertEqual(find_suspects(net, trials), [0, 1, 2])

    def test_blames_of_two_trials(self):
        net = Net([("a", "b", 2, "<")])
        trials = [("b", "missed", 5), ("a", "reached", 3), ("a", "reached", 4), ("b", "missed", 4)]
        self.assertTrue(is_blame(net, trials, (0, 1)))
        self.assertFalse(is_blame(net, trials, (0, 2)))
        self.assertFalse(is_blame(net, trials, (1, 0)))
        self.assertFalse(is_blame(net, trials, (0, 3)))
        self.assertFalse(is_blame(net, trials, (1, 2)))
        self.assertFalse(is_blame(Net([("a", "b", 2, "<=")]), [("b", "missed", 4), ("a", "reached", 3)], (0, 1)))
        self.assertTrue(is_blame(Net([("a", "b", 2, "<=")]), [("b", "missed", 5), ("a", "reached", 3)], (0, 1)))

    def test_one_name(self):
        net = Net([("a", "b", 2, "<")])
        trials = [("a", "missed", 5), ("a", "reached", 5), ("a", "reached", 6)]
        self.assertTrue(is_blame(net, trials, (0, 1)))
        self.assertFalse(is_blame(net, trials, (0, 2)))

    def test_a_pair_of_which_one_is_always_misread(self):
        net = Net.box("a", 3, 5)
        trials = [("a", "missed", 9), ("a", "reached", 4), ("a", "missed", 3), ("a", "reached", 1)]
        self.assertTrue(is_blame(net, trials, (0, 1)))
        self.assertTrue(is_blame(net, trials, (2, 3)))
        self.assertFalse(is_blame(net, trials, (2, 1)))
        self.assertFalse(is_blame(net, trials, (1, 3)))

    def test_other_lengths_and_wrong_indexes(self):
        for blame in ((), (0, 1, 0), (2,), (-1,), (0, 2), (2, 0), (0, -1), (-1, 1), (-2, 1), (0, 0), (1, 1)):
            self.assertIs(is_blame(self.NET, self.TRIALS, blame), False, blame)
        self.assertIs(is_blame(self.NET, self.TRIALS, (0, 1)), True)

    def test_many(self):
        chance = random.Random(62)
        sizes = set()
        for round_ in range(120):
            net, trials = some_case(chance, chance.randint(0, 6))
            most, _ = plain_sets(net, trials)
            sizes.add(most)
            self.check_answers(net, trials, most)
            indexes = range(-1, len(trials) + 1)
            for first in indexes:
                good = 0 <= first < len(trials)
                self.assertEqual(is_blame(net, trials, (first,)), good and plain_blame(net, trials, (first,)))
                for second in range(len(trials)):
                    self.assertEqual(is_blame(net, trials, (first, second)),
                                     good and plain_blame(net, trials, (first, second)))
        self.assertGreaterEqual(sizes, {0, 1, 2, 3})

    def test_pairs_alone(self):
        chance = random.Random(162)
        for round_ in range(60):
            net = Net.fence("w", 3, chance.randint(0, 2))
            trials = some_trials(chance, net, chance.randint(4, 8))
            self.check_answers(net, trials, plain_sets(net, trials)[0])

    def test_sixteen_trials(self):
        net = Net.fence("w", 20, 1)
        trials = [("w.0", "missed", 30), ("w.9", "reached", 12)] * 4 + [("w.19", "missed", 30)] * 3 + [
            ("w.10", "reached", 3)] * 5
        self.check_answers(net, trials, 7)
        self.refused(TooMany, fewest_misread, net, [*trials, trials[0]], has={"what": "trials", "most": 16})
        chance = random.Random(262)
        many = some_trials(chance, net, 16)
        self.check_answers(net, many, fewest_misread(net, many))

    def test_long_heights(self):
        net = Net([("a", "b", HUGE, "<")])
        trials = [("b", "missed", HUGE), ("a", "reached", 0), ("a", "reached", 1)]
        self.check_answers(net, trials, 1)

    def test_errors(self):
        net = Net([("a", "b", 1, "<"), ("b", "a", -1, "<=")])
        bad = [("a", "reached", 3), ("z", "missed", 3), ("y", "missed", 1)]
        calls = [lambda *args: is_blame(*args, (0,)), fewest_misread, find_blames, find_suspects, best_world,
                 lambda *args: heights(*args, "x", -1)]
        for call in calls:
            self.refused(TooMany, call, net, bad * 6, has={"what": "trials", "most": 16})
            self.refused(NoQuantity, call, net, bad, has={"name": "z"})
            self.refused(NoQuantity, call, net, [(None, "reached", 3)], has={"name": None})
            with self.assertRaises(NoNet) as caught:
                call(net, bad[:1])
            self.assertTrue(is_ring(net, caught.exception.ring))
            self.refused(NoQuantity, call, Net(), bad, has={"name": "a"})

    def test_nothing_is_modified_or_shared(self):
        trials = list(self.TRIALS)
        find_blames(self.NET, trials).clear()
        find_suspects(self.NET, trials).clear()
        best_world(self.NET, trials).clear()
        self.assertEqual(trials, self.TRIALS)
        self.check_answers(self.NET, trials, 1)


class TestHeights(Misreads):
    def plain_fewest(self, net, trials, name, value):
        """The fewest misread trials of a world in which the name has this level, None if there is none."""
        at = Form.one(name) * value[1] - value[0]
        return plain_sets(net, trials, Both(AtMost(at), AtMost(-at)))[0]

    def test_plain(self):
        net = TestMisreads.NET
        trials = TestMisreads.TRIALS
        self.assertEqual(str(heights(net, trials, "w.0", 1)), "[0, 7] (9, 20]")
        self.assertEqual(heights(net, trials, "w.0", 0), Pieces.none())
        self.assertEqual(str(heights(net, trials, "w.0", 2)), "[0, 20]")
        self.assertEqual(str(heights(net, trials, "w.0", 10 ** 29)), "[0, 20]")
        self.assertEqual(str(heights(net, trials, "w.1", 1)), "[-2, 5] (7, 22]")
        self.assertEqual(str(heights(net, [], "w.0", 0)), "[0, 20]")
        self.assertEqual(heights(Net.fence("w", 2, 2), [], "w.0", 0), Pieces.every())

    def test_open_ends(self):
        net = Net([("a", "b", 2, "<"), ("b", "a", 1, "<=")])
        self.assertEqual(str(heights(net, [("a", "reached", 4)], "b", 0)), "(.., 6)")
        self.assertEqual(str(heights(net, [("b", "reached", 4)], "a", 0)), "(.., 5]")
        self.assertEqual(str(heights(net, [("a", "missed", 4)], "b", 0)), "(3, ..)")
        self.assertEqual(str(heights(net, [("b", "missed", 4)], "a", 0)), "(2, ..)")
        self.assertEqual(str(heights(net, [("a", "missed", 4), ("a", "reached", 4)], "a", 1)), "(.., ..)")
        self.assertEqual(heights(net, [("a", "missed", 4), ("a", "reached", 4)], "a", 0), Pieces.none())

    def test_many(self):
        chance = random.Random(63)
        for round_ in range(60):
            net, trials = some_case(chance, chance.randint(0, 4))
            name = chance.choice(net.names())
            found = [heights(net, trials, name, most) for most in range(len(trials) + 2)]
            for pieces in found:
                self.assertEqual(faults(pieces.parts), [])
            for value in candidates([*ends_of(*found), (0, 1), (7, 2)]):
                least = self.plain_fewest(net, trials, name, value)
                for most, pieces in enumerate(found):
                    self.assertEqual(value in pieces, least is not None and least <= most)
            self.assertEqual(found[-1], found[-2])

    def test_sixteen_trials(self):
        chance = random.Random(163)
        net = Net.fence("w", 20, 1) + Net.box("w.7", -30, 30)
        trials = some_trials(chance, net, 16, 20)
        least = fewest_misread(net, trials)
        self.assertFalse(heights(net, trials, "w.3", least - 1) if least else False)
        self.assertTrue(heights(net, trials, "w.3", least))
        self.assertEqual(str(heights(net, trials, "w.3", 16)), "[-34, 34]")

    def test_errors(self):
        net = Net.box("a", 0, 5)
        self.refused(NoQuantity, heights, net, [], "b", -1, has={"name": "b"})
        self.refused(NoQuantity, heights, net, [], None, 0, has={"name": None})
        self.refused(BadLimit, heights, net, [], "a", -1, has={"limit": -1})
        self.refused(NoQuantity, heights, net, [("c", "reached", 1)], "b", -1, has={"name": "c"})
