"""Boards: points 91 to 93; compared with a plain reading of point 91."""

import random

from metehouse.boards import Lot, beyond, board, check_lot, lend
from metehouse.cases import closed, find_world
from metehouse.claims import AtMost, Below, Both, Either, Not, Same
from metehouse.errors import BadName, Full, NotSure, TooDeep, TooMany, TooWide, UnknownSection
from metehouse.forms import Form
from metehouse.gauges import Gauge
from metehouse.house import House
from metehouse.judging import judge, word
from metehouse.writing import read_house, write_house
from tests.helping import Case
from tests.housing import all_trees, gauge_house, has_world, is_right, plain_fits, replaced, some_deniable, some_house
from tests.test_house import contents, undone

A, B, X = Form.one("a"), Form.one("b"), Form.one("x")


def plain_known(house, slips, order):
    """The known slips, found by trying all slips and sections in an order until nothing is brought."""
    known = []
    again = True
    while again:
        again = False
        for index in order:
            for section in house.sections():
                others = [slips[other] for other in known]
                if index not in known and not has_world(house.part(section), *others, Not(slips[index])):
                    known.append(index)
                    again = True
    return sorted(known)


def some_board(seed):
    chance = random.Random(seed)
    house = some_house(chance, ["a", "b"], instruments=3, facts=3)
    slips = [some_deniable(chance, ["a", "b", "d"], 1) for _ in range(chance.randint(0, 4))]
    return house, slips


def two_sections():
    """Two sections that must tell each other what they know, one after the other."""
    house = House()
    house.learn(Same(A, 1), "east")
    house.learn(AtMost(X - B), "east")
    house.learn(AtMost(B - A), "west")
    house.learn(Both(AtMost(A, 5), AtMost(-A)), "north")
    return house


class TestBoard(Case):
    def check(self, house, slips):
        """The lot is right by the words of points 91 and 92; its known slips."""
        before, texts = contents(house), [str(slip) for slip in slips]
        lot = board(house, slips)
        self.assertKind(lot, Lot)
        self.assertKind(lot.known, tuple)
        self.assertKind(lot.steps, list)
        self.assertEqual(list(lot.known), sorted(step[0] for step in lot.steps))
        earlier = []
        for index, section, used, tree in lot.steps:
            self.assertKind(used, tuple)
            self.assertTrue(all(other in earlier for other in used))
            given = [slips[other] for other in used]
            self.assertTrue(is_right(house.part(section), tree, *given, Not(slips[index])))
            earlier.append(index)
        self.assertEqual(sorted(lot.doubts), [index for index in range(len(slips)) if index not in lot.known])
        for index, worlds in lot.doubts.items():
            self.assertEqual(sorted(worlds), sorted(house.sections()))
            for section, world in worlds.items():
                self.assertTrue(plain_fits(house.part(section), world))
                self.assertTrue(all(slips[other](world) for other in lot.known))
                self.assertFalse(slips[index](world))
        self.assertIs(check_lot(house, slips, lot), True)
        self.assertEqual((contents(house), [str(slip) for slip in slips]), (before, texts))
        return list(lot.known)

    def test_random_houses(self):
        seen = {}
        for seed in range(200):
            house, slips = some_board(seed)
            known = self.check(house, slips)
            order = list(range(len(slips)))
            self.assertEqual(known, plain_known(house, slips, order), seed)
            self.assertEqual(known, plain_known(house, slips, order[::-1]), seed)
            seen[len(known)] = seen.get(len(known), 0) + 1
            doubtful = [index for index in order if index not in known]
            found = beyond(house, slips)
            self.assertEqual([index for index, _ in found], [i for i in doubtful if word(house, slips[i]) == "sure"])
            for index, tree in found:
                self.assertTrue(is_right(house, tree, Not(slips[index])))
            if has_world(house):
                self.assertTrue(all(word(house, slips[index]) == "sure" for index in known))
        self.assertGreaterEqual(set(seen), {0, 1, 2, 3})

    def test_one_after_another(self):
        house = two_sections()
        slips = [AtMost(X, 1), AtMost(B, 1), AtMost(A, 1), AtMost(A, 5), AtMost(X, 0)]
        self.assertEqual(self.check(house, slips), [0, 1, 2, 3])
        self.assertEqual(self.check(house, slips[:2]), [])
        self.assertEqual(self.check(house, slips[1:3]), [0, 1])
        self.assertEqual([index for index, _ in beyond(house, slips[:2])], [0, 1])
        self.assertEqual(beyond(house, slips), [])

    def test_no_slips(self):
        for house in (House(), two_sections()):
            self.assertEqual(self.check(house, []), [])
            self.assertEqual(beyond(house, []), [])

    def test_no_sections(self):
        house = House()
        lot = board(house, [Both(), Either()])
        self.assertEqual((lot.known, lot.steps, lot.doubts), ((), [], {0: {}, 1: {}}))
        self.assertEqual(self.check(house, [Both(), Either()]), [])
        self.assertEqual([index for index, _ in beyond(house, [Either(), Both()])], [1])

    def test_one_section(self):
        for seed in range(60):
            house, slips = some_board(seed)
            lines = [line.split(" ") for line in write_house(house).split("\n")]
            for words in lines:
                if words[0] in ("place", "learn"):
                    words[1] = "one"
            one = read_house("\n".join(" ".join(words) for words in lines))
            self.assertLessEqual(len(one.sections()), 1)
            if one.sections():
                fits = has_world(one)
                expected = [i for i, slip in enumerate(slips) if not fits or word(one, slip) == "sure"]
                self.assertEqual(self.check(one, slips), expected, seed)

    def test_a_section_that_no_world_fits_brings_all(self):
        house = two_sections()
        house.learn(Either(), "south")
        self.assertEqual(self.check(house, [Either(), Below(A), Both()]), [0, 1, 2])

    def test_two_sections_made_one(self):
        for seed in range(60):
            house, slips = some_board(seed)
            text = write_house(house)
            joined = read_house("\n".join(
                line.replace("place west", "place east").replace("learn north", "learn east") for line in text.split("\n")))
            self.assertLessEqual(set(self.check(house, slips)), set(self.check(joined, slips)))

    def test_eight_and_nine_slips(self):
        house = two_sections()
        slips = [AtMost(A, number) for number in range(9)]
        self.assertEqual(self.check(house, slips[:8]), [1, 2, 3, 4, 5, 6, 7])
        wide = Both(*[AtMost(A, number) for number in range(65)])
        lot = board(house, [])
        for call in (board, beyond, lambda own, slips: check_lot(own, slips, lot)):
            self.refused(TooMany, call, house, slips, has={"what": "slips", "most": 8})
            self.refused(TooMany, call, house, [wide] * 9, has={"what": "slips", "most": 8})

    def test_errors_of_negations(self):
        wide = Both(*[AtMost(A, number) for number in range(65)])
        deep = AtMost(A)
        for _ in range(7):
            deep = Both(deep)
        house, lot = two_sections(), board(two_sections(), [])
        for call in (board, beyond, lambda own, slips: check_lot(own, slips, lot)):
            self.refused(TooWide, call, house, [Both(), wide, deep], has={"width": 65})
            self.refused(TooDeep, call, House(), [deep, wide], has={"depth": 9})

    def test_it_holds_what_it_is_given(self):
        steps, doubts = [], {}
        lot = Lot((0,), steps, doubts)
        self.assertEqual(lot.known, (0,))
        self.assertIs(lot.steps, steps)
        self.assertIs(lot.doubts, doubts)

    def test_results_are_new(self):
        house, slips = two_sections(), [AtMost(A, 1), AtMost(B, 1), Below(X)]
        lot = board(house, slips)
        lot.steps.clear()
        for worlds in lot.doubts.values():
            for world in worlds.values():
                world.clear()
            worlds.clear()
        self.assertEqual(self.check(house, slips), [0, 1])


class TestCheckLot(Case):
    def setUp(self):
        self.house = two_sections()
        self.slips = [AtMost(X, 1), Below(A), AtMost(B, 1), AtMost(A, 1), Below(X)]
        self.lot = board(self.house, self.slips)
        self.assertEqual((self.lot.known, sorted(self.lot.doubts)), ((0, 2, 3), [1, 4]))

    def right(self, **changed):
        parts = {"known": self.lot.known, "steps": self.lot.steps, "doubts": self.lot.doubts, **changed}
        return check_lot(self.house, self.slips, Lot(parts["known"], parts["steps"], parts["doubts"]))

    def test_known(self):
        self.assertIs(self.right(), True)
        for known in ((), (0, 2), (0, 2, 3, 4), (2, 0, 3), (0, 2, 3, 3), (0, 2, 5), (-5, 2, 3)):
            self.assertIs(self.right(known=known), False)

    def test_steps(self):
        steps = self.lot.steps
        self.assertFalse(self.right(steps=[]))
        self.assertFalse(self.right(steps=steps[1:]))
        self.assertFalse(self.right(steps=steps[:-1]))
        self.assertFalse(self.right(steps=steps + steps[-1:]))
        self.assertFalse(self.right(steps=steps[::-1]))
        self.assertFalse(self.right(steps=steps[:-1], known=(0, 2)))
        for at, (index, section, used, tree) in enumerate(steps):
            def changed(*step):
                return self.right(steps=[*steps[:at], step, *steps[at + 1:]])
            for other in (-1, 1, 4, 5, 9, index - 5):
                self.assertFalse(changed(other, section, used, tree))
            for other in ("south", "", "p", *[name for name in self.house.sections() if name != section]):
                given = [self.slips[k] for k in used]
                expected = other in self.house.sections() and is_right_safe(
                    self.house.part(other), tree, *given, Not(self.slips[index]))
                self.assertEqual(changed(index, other, used, tree), expected)
            for other in ((index,), (*used, index), (*used, 1), (*used, 9), (-1,), (*used, -2)):
                self.assertFalse(changed(index, section, other, tree))
            for here in all_trees(tree):
                self.assertFalse(changed(index, section, used, replaced(tree, here, ("weights", []))))
                self.assertFalse(changed(index, section, used, replaced(tree, here, ("over", "p"))))

    def test_used_slips_in_their_order(self):
        house = House()
        house.learn(Same(A), "s")
        house.learn(Same(B), "s")
        house.learn(AtMost(X - A - B), "t")
        slips = [AtMost(A), AtMost(B), AtMost(X)]
        lot = board(house, slips)
        self.assertEqual(lot.known, (0, 1, 2))
        index, section, used, tree = lot.steps[-1]
        self.assertEqual((index, section, sorted(used)), (2, "t", [0, 1]))
        self.assertTrue(check_lot(house, slips, lot))
        self.assertFalse(check_lot(house, slips, Lot(lot.known, [*lot.steps[:-1], (index, section, used[:1], tree)], {})))

    def test_steps_without_what_they_do_not_use(self):
        tree = closed(self.house.part("east"), Not(self.slips[3]))
        first = (3, "east", (), tree)
        second = closed(self.house.part("west"), self.slips[3], Not(self.slips[2]))
        third = closed(self.house.part("east"), self.slips[3], self.slips[2], Not(self.slips[0]))
        steps = [first, (2, "west", (3,), second), (0, "east", (3, 2), third)]
        self.assertTrue(self.right(steps=steps))
        self.assertFalse(self.right(steps=[steps[0], steps[2], steps[1]]))

    def test_doubts(self):
        doubts = self.lot.doubts
        self.assertFalse(self.right(doubts={}))
        self.assertFalse(self.right(doubts={1: doubts[1]}))
        self.assertFalse(self.right(doubts={**doubts, 0: doubts[1]}))
        self.assertFalse(self.right(doubts={**doubts, 9: doubts[1]}))
        self.assertFalse(self.right(doubts={1: doubts[1], -1: doubts[4]}))
        self.assertTrue(self.right(doubts={4: doubts[4], 1: doubts[1]}))
        for index, worlds in doubts.items():
            for section, world in worlds.items():
                def changed(new):
                    return self.right(doubts={**doubts, index: {**worlds, section: new}})
                self.assertFalse(self.right(doubts={**doubts, index: {k: worlds[k] for k in worlds if k != section}}))
                self.assertFalse(self.right(doubts={**doubts, index: {**worlds, "south": world}}))
                self.assertTrue(changed({**world, "zz": (-4, 7)}))
                for level in ((2, 2), (0, 2), (1, 0), (1, -1), (-4, 6)):
                    self.assertFalse(changed({**world, "zz": level}), level)
                for name in ("a", "b", "x"):
                    self.assertFalse(changed({other: world[other] for other in world if other != name}) and name in needed_names(
                        self.house.part(section), [self.slips[k] for k in self.lot.known], self.slips[index]))
                    top, bottom = world[name]
                    self.assertFalse(changed({**world, name: (3 * top, 3 * bottom)}))
                holds = find_world(self.house.part(section), self.slips[index], AtMost(A - 9), AtMost(B + X))
                if holds is not None:
                    self.assertFalse(changed(holds))
                self.assertFalse(changed({"a": (9, 1), "b": (9, 1), "x": (9, 1)}))
                self.assertFalse(changed({}))

    def test_worlds_in_which_a_known_slip_fails(self):
        world = {"a": (1, 1), "b": (1, 1), "x": (1, 1)}
        worlds = {**self.lot.doubts[4], "north": world}
        self.assertTrue(self.right(doubts={**self.lot.doubts, 4: worlds}))
        worlds["north"] = {**world, "b": (2, 1)}
        self.assertFalse(self.right(doubts={**self.lot.doubts, 4: worlds}))

    def test_another_house(self):
        lot = self.lot
        self.house.learn(AtMost(X), "north")
        self.assertTrue(self.right())
        self.house.learn(Below(A), "north")
        self.assertFalse(check_lot(self.house, self.slips, lot))
        self.house.undo()
        self.house.learn(Both(), "south")
        self.assertFalse(self.right())


def needed_names(house, slips, slip):
    names = set(house.quantities()) | set(slip.names())
    for other in slips:
        names |= set(other.names())
    return names


def is_right_safe(*told):
    try:
        return is_right(*told)
    except (IndexError, KeyError, ValueError):
        return False


class TestLend(Case):
    def test_lending(self):
        house = two_sections()
        self.assertEqual(lend(house, AtMost(A, 3), "east", "west"), 4)
        self.assertEqual(house.facts()[4][0], "west")
        self.assertEqual(str(house.facts()[4][1]), "a - 3 <= 0")
        self.assertEqual(house.history()[-1], "learn west a - 3 <= 0")
        self.assertEqual(lend(house, AtMost(B, 3), "west", "new"), 5)
        self.assertEqual(house.undo(), "learn new b - 3 <= 0")
        self.assertEqual(house.redo(), "learn new b - 3 <= 0")

    def test_the_fact_stays(self):
        house = House()
        house.place(Gauge("g", A), "east")
        house.read("g", 3)
        self.assertEqual(lend(house, Same(A, 3), "east", "west"), 0)
        house.drop("g", 0)
        self.assertEqual(word(house, Same(A, 3)), "sure")
        self.assertEqual(word(house.part("east"), Same(A, 3)), "open")

    def test_the_same_worlds_fit(self):
        lent = 0
        for seed in range(120):
            house, slips = some_board(seed)
            for slip in slips:
                for source in house.sections():
                    if word(house.part(source), slip) == "sure":
                        other = house.twin()
                        lend(other, slip, source, "north")
                        lent += 1
                        self.assertIsNone(find_world(house, Not(slip)))
                        self.assertEqual(has_world(house), has_world(other))
        self.assertGreater(lent, 20)

    def refused_lending(self, kind, house, *told, has):
        before = (contents(house), undone(house))
        self.refused(kind, lend, house, *told, has=has)
        self.assertEqual((contents(house), undone(house)), before)

    def test_errors_in_order(self):
        wide = Both(*[AtMost(A, number) for number in range(65)])
        house = two_sections()
        house.undo()
        house.change(3)
        self.refused_lending(UnknownSection, house, wide, "south", "S", has={"name": "south"})
        self.refused_lending(UnknownSection, house, wide, "north", "S", has={"name": "north"})
        self.refused_lending(TooWide, house, wide, "east", "S", has={"width": 65})
        self.refused_lending(NotSure, house, Below(A), "east", "S", has={"word": "never"})
        self.refused_lending(NotSure, house, Below(B), "east", "S", has={"word": "open"})
        self.refused_lending(Full, house, AtMost(A, 1), "east", "S", has={"limit": 3})
        house.change(4)
        self.refused_lending(BadName, house, AtMost(A, 1), "east", "S", has={"name": "S"})
        nothing = gauge_house([0, 0], [1, 2], 0)
        self.refused_lending(NotSure, nothing, Both(), "s", "t", has={"word": "none"})
        full = House()
        for _ in range(40):
            full.learn(Same(A), "s")
        self.refused_lending(TooMany, full, Same(A), "s", "t", has={"what": "facts", "most": 40})
        self.refused_lending(BadName, full, Same(A), "s", "T", has={"name": "T"})

    def test_lending_forgets_undone_deeds(self):
        house = two_sections()
        house.undo()
        lend(house, AtMost(A, 3), "east", "west")
        self.assertEqual(undone(house), [])
        self.assertEqual(judge(house, AtMost(B, 1))[0], "sure")
