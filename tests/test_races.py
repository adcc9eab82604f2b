"""The quickest tables: point 67; compared with the race, cut at a limit, and with other sound tables."""

import random
from itertools import product

from metehouse.errors import BadNumber, BadTable
from metehouse.races import quickest
from metehouse.tables import Table
from tests.helping import Case
from tests.test_tables import some_table

HUGE = 10 ** 30 - 1


def word_at(table, tries):
    """The word at which the table stops at these tries or before, or None."""
    for length in range(len(tries) + 1):
        try:
            word = table.word_after(tries[:length])
        except ValueError:
            return None
        if word is not None:
            return word
    return None


class TestQuickest(Case):
    def test_example_of_a_cut(self):
        self.assertEqual(quickest(1, 2).ends(), {(2, 0): "reached", (0, 2): "missed", (1, 1): "unsure"})
        self.assertEqual(quickest(0, 1), Table.race(0))

    def test_the_race_cut_at_each_limit(self):
        for wrong in range(6):
            race = Table.race(wrong)
            for limit in range(1, 13):
                table = quickest(wrong, limit)
                self.assertKind(table, Table)
                self.assertEqual(table.limit, limit)
                stops = set()
                for length in range(limit + 1):
                    for letters in product("rm", repeat=length):
                        tries = "".join(letters)
                        if any(word_at(race, tries[:k]) for k in range(length)):
                            continue
                        expected = word_at(race, tries) or ("unsure" if length == limit else None)
                        self.assertEqual(table.word_after(tries), expected, (wrong, limit, tries))
                        if expected is not None:
                            stops.add((tries.count("r"), tries.count("m")))
                self.assertEqual(set(table.ends()), stops)

    def test_no_unsure_beyond_the_race(self):
        self.assertEqual(quickest(1, 12).ends(), Table.race(1).ends())
        self.assertNotEqual(quickest(1, 12), Table.race(1))

    def test_errors(self):
        self.refused(BadNumber, quickest, -1, 0, has={"number": -1})
        self.refused(BadNumber, quickest, -HUGE, 3, has={"number": -HUGE})
        for limit in (0, -1, 13, HUGE):
            self.refused(BadTable, quickest, 0, limit, has={"fault": "limit"})
            self.refused(BadTable, quickest, HUGE, limit, has={"fault": "limit"})

    def test_no_work_grows_with_wrong(self):
        for limit in range(1, 13):
            unsure = {(reached, limit - reached): "unsure" for reached in range(limit + 1)}
            self.assertEqual(quickest(HUGE, limit).ends(), unsure)
            self.assertEqual(quickest(limit, limit).ends(), unsure)
            self.assertIsNone(quickest(HUGE, limit).sound(HUGE))
        self.assertEqual(quickest(5, 6).ends()[(6, 0)], "reached")

    def test_sound(self):
        for wrong in range(8):
            for limit in range(1, 13):
                self.assertIsNone(quickest(wrong, limit).sound(wrong))

    def test_no_sound_table_is_quicker(self):
        chance = random.Random(67)
        for _ in range(150):
            limit = chance.randint(1, 6)
            wrong = chance.randint(0, 3)
            table = Table(*some_table(chance, limit)).softened(wrong)
            self.assertIsNone(table.sound(wrong))
            quick = quickest(wrong, limit)
            for length in range(1, limit + 1):
                for letters in product("rm", repeat=length):
                    tries = "".join(letters)
                    word = word_at(table, tries)
                    stopped = word_at(table, tries[:-1]) is None and word is not None
                    few = min(tries.count("r"), tries.count("m")) <= wrong
                    if stopped and few and word != "unsure":
                        self.assertEqual(word_at(quick, tries), word)
