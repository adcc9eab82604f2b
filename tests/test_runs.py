"""Runs: point 68, with what they have from ladders; compared with a ladder for each try."""

from itertools import product

from metehouse.claims import AtMost, Below, Either
from metehouse.errors import BadName, BadNumber, BadReading
from metehouse.forms import Form
from metehouse.house import House
from metehouse.instruments import Instrument
from metehouse.judging import differ
from metehouse.ladders import Ladder
from metehouse.runs import Run
from metehouse.tables import Table
from tests.helping import Case

A = Form.one("a")
HUGE = 10 ** 30 - 1


def all_tries(length, signs="rm"):
    for count in range(length + 1):
        for letters in product(signs, repeat=count):
            yield "".join(letters)


class TestRun(Case):
    def test_attributes(self):
        table = Table.race(1)
        run = Run("r", A + 1, length=5, foot=3, table=table, wrong=2)
        self.assertEqual((run.name, run.form, run.height, run.wrong), ("r", A + 1, 4, 2))
        self.assertIs(run.table, table)
        self.assertIsInstance(run, Ladder)
        self.assertIsInstance(run, Instrument)
        self.assertEqual(Run("r", A, length=5, table=table).wrong, 0)
        self.assertEqual(Run("r", A, length=5, table=table).height, 5)
        self.assertEqual((run.names(), run.tellings()), (("a",), []))

    def test_errors_of_ladders_first(self):
        table = Table.race(0)
        self.refused(BadName, Run, "R", A, length=-1, foot=-2, table=table, wrong=-3, has={"name": "R"})
        self.refused(BadNumber, Run, "r", A, length=-1, foot=-2, table=table, wrong=-3, has={"number": -1})
        self.refused(BadNumber, Run, "r", A, length=1, foot=-2, table=table, wrong=-3, has={"number": -2})
        self.refused(BadNumber, Run, "r", A, length=1, table=table, wrong=-3, has={"number": -3})

    def test_what_says_answers(self):
        for table in (Table.race(0), Table.race(1), Table(2, {(1, 0): "unsure", (0, 2): "missed", (1, 1): "missed"})):
            for wrong in (0, 1, 2, HUGE):
                run = Run("r", A, length=5, foot=3, table=table, wrong=wrong)
                for tries in all_tries(4, "rmx"):
                    try:
                        table.word_after(tries)
                    except ValueError:
                        self.refused(BadReading, run.says, tries, has={"name": "r", "told": tries})
                        continue
                    parts = []
                    if tries.count("m") <= wrong:
                        parts.append(AtMost(A, 4))
                    if tries.count("r") <= wrong:
                        parts.append(Below(4 - A))
                    self.assertEqual(run.says(tries), Either(*parts), (tries, wrong))

    def test_nothing_is_possible_any_more(self):
        run = Run("r", A, length=5, table=Table.race(2))
        self.assertEqual(str(run.says("rm")), "either")
        self.assertEqual(str(run.says("")), "either (a - 5 <= 0) (-a + 5 < 0)")

    def test_the_word_of_the_table_does_not_count(self):
        table = Table(1, {(1, 0): "missed", (0, 1): "reached"})
        self.assertEqual(str(Run("r", A, length=5, table=table).says("r")), "either (a - 5 <= 0)")

    def test_wrong_tellings(self):
        run = Run("r", A, length=5, table=Table.race(1))
        for told in (0, 1, True, False, None, ["r"], ("r",), b"r", {}, "reached", "R", " ", "r ", "-", "rrr", "mmr"):
            self.refused(BadReading, run.says, told, has={"name": "r", "told": told})

    def test_written(self):
        run = Run("r", A - 2, length=5, foot=3, table=Table.race(0), wrong=7)
        self.assertEqual(str(run), "run r 5 3 7 : a - 2 ; 1 0 1 missed 1 0 reached")

    def test_equal(self):
        def run(**changed):
            return Run("r", A, **{"length": 5, "table": Table.race(1), "wrong": 1, **changed})
        self.assertTrue(run() == run(foot=0))
        self.assertTrue(run() == run(table=Table(3, Table.race(1).ends())))
        for other in (run(wrong=0), run(length=6), run(foot=1), run(table=Table.race(0)), Run("k", A, length=5,
                      table=Table.race(1), wrong=1), Ladder("r", A, length=5), str(run()), None):
            self.assertFalse(run() == other)

    def test_a_ladder_for_each_try(self):
        table = Table(4, {(4, 0): "reached", (3, 1): "reached", (2, 2): "unsure", (1, 3): "missed", (0, 4): "missed"})
        for wrong in range(4):
            for tries in all_tries(4):
                house = House()
                house.place(Run("run", A, length=3, table=table, wrong=wrong), "s")
                house.read("run", tries)
                other = House()
                other.allow("p", wrong)
                for name, one in zip("abcd", tries):
                    other.place(Ladder(name, A, length=3), "s", "p")
                    other.read(name, "reached" if one == "r" else "missed")
                self.assertIsNone(differ(house, other), (wrong, tries))

    def test_several_readings_are_runs_of_their_own(self):
        house = House()
        house.place(Run("run", A, length=3, table=Table.race(1), wrong=1), "s")
        self.assertEqual((house.read("run", "rm"), house.read("run", ""), house.read("run", "rr")), (0, 1, 2))
        self.assertEqual(house.history()[1:], ["read run rm", "read run -", "read run rr"])
        self.assertTrue(house.says("run")({"a": (3, 1)}))
        self.assertFalse(house.says("run")({"a": (7, 2)}))
