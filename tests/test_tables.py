"""Tables: points 64 to 66, Table.race of point 67, and their written form; compared with all strings of tries."""

import random
from itertools import product

from metehouse.errors import BadNumber, BadTable, BadTries
from metehouse.tables import Table
from tests.helping import Case

HUGE = 10 ** 30 - 1
WORDS = ("reached", "missed", "unsure")
SMALL = {(1, 0): "reached", (0, 1): "missed"}


def count_of(tries):
    return (tries.count("r"), tries.count("m"))


def all_stops(limit, ends):
    """All strings of tries that stop."""
    found = []
    for length in range(1, limit + 1):
        for letters in product("rm", repeat=length):
            tries = "".join(letters)
            if count_of(tries) in ends and not any(count_of(tries[:k]) in ends for k in range(length)):
                found.append(tries)
    return found


def misread(tries, truth):
    return tries.count("m" if truth == "reached" else "r")


def false_ends(limit, ends, wrong):
    """The pairs of tries that stop with a false word, of which at most so many are misread, and the truth."""
    found = set()
    for tries in all_stops(limit, ends):
        for truth, word in (("reached", "missed"), ("missed", "reached")):
            if ends[count_of(tries)] == word and misread(tries, truth) <= wrong:
                found.add((tries, truth))
    return found


def some_table(chance, limit):
    """A limit and a dict that are a table, with some counts that no tries stop at."""
    ends = {}
    for total in range(1, limit + 1):
        for reached in range(total + 1):
            if chance.random() < 0.4 or total == limit and chance.random() < 0.9:
                ends[(reached, total - reached)] = chance.choice(WORDS)
    for letters in product("rm", repeat=limit):
        counts = [count_of(letters[:k]) for k in range(limit + 1)]
        if not any(count in ends for count in counts):
            ends[counts[-1]] = chance.choice(WORDS)
    return limit, ends


class TestTable(Case):
    def test_creating(self):
        ends = dict(SMALL)
        table = Table(1, ends)
        self.assertEqual((table.limit, table.ends()), (1, SMALL))
        ends[(1, 0)] = "unsure"
        table.ends().clear()
        self.assertEqual(table.ends(), SMALL)
        for limit in range(1, 13):
            self.assertEqual(Table(limit, SMALL).limit, limit)

    def test_faults(self):
        for limit in (0, 13, -1, HUGE):
            for ends in (SMALL, {(-1, 0): "no"}, {**SMALL, (0, 0): "reached"}, {**SMALL, (1, 1): "no"}, {},
                         {(1, 0): "reached"}):
                self.refused(BadTable, Table, limit, ends, has={"fault": "limit"})
        for count in ((-1, 2), (2, -1), (0, 0), (3, 0), (1, 2), (HUGE, 1)):
            self.refused(BadTable, Table, 2, {(1, 0): "no", count: "reached"}, has={"fault": "count"})
            self.refused(BadTable, Table, 2, {count: "no", (1, 0): "no"}, has={"fault": "count"})
            self.refused(BadTable, Table, 2, {**SMALL, count: "reached"}, has={"fault": "count"})
        for word in ("no", "Reached", "", None, 3):
            self.refused(BadTable, Table, 2, {(1, 0): "reached", (1, 1): word}, has={"fault": "word"})
            self.refused(BadTable, Table, 1, {**SMALL, (0, 1): word}, has={"fault": "word"})
        self.refused(BadTable, Table, 2, {(1, 0): "reached"}, has={"fault": "gap"})
        self.refused(BadTable, Table, 2, {}, has={"fault": "gap"})
        self.refused(BadTable, Table, 2, {(2, 0): "reached", (0, 2): "missed"}, has={"fault": "gap"})
        self.refused(BadTable, Table, 12, {(1, 0): "unsure"}, has={"fault": "gap"})

    def test_a_gap_that_tries_cannot_reach_is_none(self):
        table = Table(2, {(1, 0): "reached", (0, 2): "missed", (1, 1): "unsure"})
        self.assertEqual(table.stops(), [(0, 2, "missed"), (1, 0, "reached"), (1, 1, "unsure")])
        self.assertEqual(Table(12, SMALL).stops(), [(0, 1, "missed"), (1, 0, "reached")])

    def test_gaps_of_many(self):
        chance = random.Random(64)
        gaps = 0
        for round_ in range(200):
            limit = chance.randint(1, 4)
            counts = [(r, n - r) for n in range(1, limit + 1) for r in range(n + 1)]
            ends = {count: "unsure" for count in counts if chance.random() < 0.6}
            open_ = [letters for letters in product("rm", repeat=limit)
                     if not any(count_of(letters[:k]) in ends for k in range(limit + 1))]
            gaps += bool(open_)
            if open_:
                self.refused(BadTable, Table, limit, ends, has={"fault": "gap"})
            else:
                Table(limit, ends)
        self.assertTrue(20 < gaps < 180)

    def test_equal(self):
        table = Table(2, {(1, 0): "reached", (0, 1): "missed"})
        self.assertTrue(table == Table(2, {(0, 1): "missed", (1, 0): "reached"}))
        for other in (Table(3, SMALL), Table(2, {**SMALL, (1, 0): "unsure"}), Table(2, {**SMALL, (2, 0): "reached"}),
                      SMALL, str(table), None):
            self.assertFalse(table == other)

    def test_written(self):
        self.assertEqual(str(Table(1, {(1, 0): "reached", (0, 1): "missed"})), "1 0 1 missed 1 0 reached")
        ends = {(10, 0): "reached", (2, 0): "reached", (0, 1): "missed", (1, 1): "unsure", (2, 10): "missed"}
        self.assertEqual(str(Table(12, ends)), "12 0 1 missed 1 1 unsure 2 0 reached 2 10 missed 10 0 reached")


class TestTries(Case):
    def test_word_after(self):
        table = Table.race(1)
        self.assertEqual([table.word_after(tries) for tries in ("", "r", "rm", "rr", "rmm", "mrr", "mm")],
                         [None, None, None, "reached", "missed", "reached", "missed"])
        for tries in ("rrr", "rrm", "mmr", "x", "rx", "R", " ", "r ", "rr ", "rrx"):
            self.refused(BadTries, table.word_after, tries, has={"tries": tries})

    def test_many(self):
        chance = random.Random(65)
        for round_ in range(80):
            limit, ends = some_table(chance, chance.randint(1, 4))
            table = Table(limit, ends)
            stops = all_stops(limit, ends)
            for length in range(limit + 2):
                for letters in product("rm", repeat=length):
                    tries = "".join(letters)
                    if any(count_of(tries[:k]) in ends for k in range(length)):
                        self.refused(BadTries, table.word_after, tries, has={"tries": tries})
                    else:
                        self.assertEqual(table.word_after(tries), ends.get(count_of(tries)))
            counts = sorted({count_of(tries) for tries in stops})
            self.assertEqual(table.stops(), [(*count, ends[count]) for count in counts])
            self.assertEqual(str(table), " ".join([str(limit)] + [
                f"{count[0]} {count[1]} {ends[count]}" for count in sorted(ends)]))

    def test_nothing_is_shared(self):
        table = Table(1, SMALL)
        table.stops().clear()
        self.assertEqual(len(table.stops()), 2)


class TestWrong(Case):
    def test_sound(self):
        table = Table.race(1)
        self.assertIsNone(table.sound(0))
        self.assertIsNone(table.sound(1))
        self.assertIn(table.sound(2), false_ends(3, table.ends(), 2))
        self.assertIn(table.sound(HUGE), false_ends(3, table.ends(), 3))
        self.assertEqual(Table(1, {(1, 0): "missed", (0, 1): "missed"}).sound(0), ("r", "reached"))
        self.assertIsNone(Table(1, {(1, 0): "unsure", (0, 1): "unsure"}).sound(HUGE))

    def test_longest(self):
        self.assertEqual((Table.race(1).longest(0), Table.race(1).longest(1), Table.race(1).longest(HUGE)), (2, 3, 3))
        self.assertEqual(Table.race(5).longest(0), 6)
        self.assertEqual(Table(12, SMALL).longest(HUGE), 1)

    def test_softened(self):
        table = Table(3, {(1, 0): "reached", (0, 1): "unsure", (3, 0): "reached", (0, 3): "missed"})
        self.assertEqual(table.softened(0), table)
        self.assertEqual(table.softened(1), Table(3, {**table.ends(), (1, 0): "unsure"}))
        self.assertEqual(table.softened(HUGE).ends()[(0, 3)], "missed")
        self.assertEqual(table.ends()[(1, 0)], "reached")
        self.assertKind(table.softened(1), Table)

    def test_errors(self):
        table = Table.race(2)
        for call in (table.sound, table.longest, table.softened):
            self.refused(BadNumber, call, -1, has={"number": -1})
            self.refused(BadNumber, call, -HUGE, has={"number": -HUGE})

    def test_many(self):
        chance = random.Random(66)
        answers = {True: 0, False: 0}
        for round_ in range(120):
            limit, ends = some_table(chance, chance.randint(1, 5))
            table = Table(limit, ends)
            stops = all_stops(limit, ends)
            for wrong in [0, 1, 2, limit, HUGE]:
                wrong_ends = false_ends(limit, ends, wrong)
                answers[bool(wrong_ends)] += 1
                if wrong_ends:
                    self.assertIn(table.sound(wrong), wrong_ends)
                else:
                    self.assertIsNone(table.sound(wrong))
                lengths = [len(tries) for tries in stops
                           if min(misread(tries, "reached"), misread(tries, "missed")) <= wrong]
                self.assertEqual(table.longest(wrong), max(lengths))
                soft = dict(ends)
                for tries, _ in wrong_ends:
                    soft[count_of(tries)] = "unsure"
                self.assertEqual(table.softened(wrong), Table(limit, soft))
                self.assertIsNone(table.softened(wrong).sound(wrong))
            self.assertEqual(table.ends(), ends)
        self.assertGreater(min(answers.values()), 50)


class TestRace(Case):
    def test_plain(self):
        self.assertEqual(str(Table.race(1)), "3 0 2 missed 1 2 missed 2 0 reached 2 1 reached")
        self.assertEqual(Table.race(0), Table(1, SMALL))
        self.assertKind(Table.race(2), Table)

    def test_all(self):
        for wrong in range(6):
            table = Table.race(wrong)
            self.assertEqual(table.limit, 2 * wrong + 1)
            stops = {}
            for letters in product("rm", repeat=2 * wrong + 1):
                for k in range(1, 2 * wrong + 2):
                    reached, missed = count_of(letters[:k])
                    if max(reached, missed) == wrong + 1:
                        stops[(reached, missed)] = "reached" if reached > wrong else "missed"
                        break
            self.assertEqual(table.ends(), stops)
            self.assertEqual({(r, m): word for r, m, word in table.stops()}, stops)
            self.assertIsNone(table.sound(wrong))
            self.assertIsNotNone(table.sound(wrong + 1))

    def test_errors(self):
        for wrong in (-1, 6, HUGE):
            self.refused(BadNumber, Table.race, wrong, has={"number": wrong})
