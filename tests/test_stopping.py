"""Stopping: points 95 and 96; compared with judge on the house in which the tries were recorded."""

import random
from itertools import product

from metehouse.claims import AtMost, Below, Same, within
from metehouse.errors import BadReading, NoWorld, NotRun, TooMany, UnknownInstrument
from metehouse.forms import Form
from metehouse.gauges import Gauge
from metehouse.house import House
from metehouse.judging import word
from metehouse.ladders import Ladder
from metehouse.runs import Run
from metehouse.stopping import endings, stop
from metehouse.tables import Table
from tests.helping import Case
from tests.housing import is_right, some_house
from tests.test_house import contents
from tests.test_tables import some_table

A = Form.one("a")


def run_house(table, wrong=0, most=None, height=3):
    house = House()
    if most is not None:
        house.allow("p", most)
    house.place(Run("run", A, length=height, table=table, wrong=wrong), "s", None if most is None else "p")
    return house


def some_runs(seed):
    """A house with a run, and perhaps other things that tell of the same level."""
    chance = random.Random(seed)
    house = some_house(chance, ["a", "b"], instruments=2, facts=1)
    house.limit = 200
    table = Table(*some_table(chance, chance.randint(1, 3)))
    run = Run("run", chance.choice([A, A, 2 * A - 1, A - Form.one("b")]), length=chance.randint(0, 3), table=table,
              wrong=chance.randint(0, 2))
    house.place(run, "s", chance.choice([None, None, "p"]))
    return house, table, run


def accepted(table, tries):
    try:
        table.word_after(tries)
    except ValueError:
        return False
    return True


def plain_stop(house, run, tries):
    """The word of judge in the house in which the tries were recorded."""
    other = house.twin()
    if tries:
        other.read(run.name, tries)
    return word(other, AtMost(run.form, run.height))


WORDS = {"sure": "reached", "never": "missed", "open": None}


class TestStop(Case):
    def test_judge(self):
        seen = {"sure": 0, "never": 0, "open": 0, "none": 0}
        for seed in range(80):
            house, table, run = some_runs(seed)
            before = contents(house)
            for length in range(4):
                for letters in product("mr", repeat=length):
                    tries = "".join(letters)
                    if not accepted(table, tries):
                        self.refused(BadReading, stop, house, "run", tries, has={"name": "run", "told": tries})
                        continue
                    expected = plain_stop(house, run, tries)
                    seen[expected] += 1
                    if expected == "none":
                        with self.assertRaises(NoWorld) as caught:
                            stop(house, "run", tries)
                        other = house.twin()
                        if tries:
                            other.read("run", tries)
                        self.assertTrue(is_right(other, caught.exception.tree))
                    else:
                        self.assertEqual(stop(house, "run", tries), WORDS[expected])
            self.assertEqual(contents(house), before)
        self.assertGreater(min(seen.values()), 20, seen)

    def test_without_tries(self):
        house = run_house(Table.race(1))
        self.assertIsNone(stop(house, "run"))
        house.learn(AtMost(A, 3), "s")
        self.assertEqual((stop(house, "run"), stop(house, "run", "")), ("reached", "reached"))
        house.undo()
        house.learn(Below(3 - A), "s")
        self.assertEqual(stop(house, "run"), "missed")

    def test_earlier_than_the_table(self):
        house = run_house(Table.race(2), wrong=1)
        self.assertEqual([stop(house, "run", tries) for tries in ("r", "rr", "rm", "rrm", "mm", "mrm")],
                         [None, "reached", None, "reached", "missed", "missed"])
        house.read("run", "r")
        self.assertIsNone(stop(house, "run", "r"))
        house.allow("p", 1)
        lying = run_house(Table.race(2), wrong=0, most=1)
        self.assertIsNone(stop(lying, "run", "rrr"))

    def test_errors_in_order(self):
        house = run_house(Table.race(1))
        house.place(Ladder("l", A, length=3), "s")
        house.place(Gauge("g", A), "s")
        house.learn(Same(A, 9), "s")
        for _ in range(8):
            house.read("run", "r")
        self.refused(UnknownInstrument, stop, house, "no", "x", has={"name": "no"})
        self.refused(NotRun, stop, house, "l", "x", has={"name": "l"})
        self.refused(NotRun, stop, house, "g", has={"name": "g"})
        for tries in ("x", "rrr", "R", " ", "-"):
            self.refused(BadReading, stop, house, "run", tries, has={"name": "run", "told": tries})
        self.refused(TooMany, stop, house, "run", "r", has={"what": "readings", "most": 8})
        with self.assertRaises(NoWorld) as caught:
            stop(house, "run")
        self.assertTrue(is_right(house, caught.exception.tree))
        house.drop("run", 7)
        with self.assertRaises(NoWorld):
            stop(house, "run", "m")

    def test_eight_readings_without_tries(self):
        house = run_house(Table.race(1), wrong=1)
        for _ in range(8):
            house.read("run", "rr")
        self.assertEqual(stop(house, "run"), "reached")

    def test_full_houses(self):
        house = run_house(Table.race(1))
        house.change(1)
        self.assertEqual(stop(house, "run", "r"), "reached")
        self.assertEqual(list(endings(house, "run"))[0], ("m", "missed", "house"))


class TestEndings(Case):
    def plain(self, house, table, run):
        """All strings that can be an end, by judging each string by itself."""
        found = []

        def go_on(tries):
            judged = plain_stop(house, run, tries)
            if judged == "none":
                return
            if judged != "open":
                found.append((tries, WORDS[judged], "house"))
            elif table.word_after(tries) is not None:
                found.append((tries, table.word_after(tries), "table"))
            else:
                go_on(tries + "m")
                go_on(tries + "r")
        go_on("")
        return found

    def test_judge_on_each_string(self):
        seen = set()
        for seed in range(120):
            house, table, run = some_runs(seed)
            before = contents(house)
            found = list(endings(house, "run"))
            self.assertEqual(found, self.plain(house, table, run), seed)
            self.assertEqual([tries for tries, _, _ in found], sorted(tries for tries, _, _ in found))
            seen |= {by for _, _, by in found}
            self.assertEqual(contents(house), before)
        self.assertEqual(seen, {"house", "table"})

    def test_races(self):
        self.assertEqual(list(endings(run_house(Table.race(1), wrong=1), "run")), [
            ("mm", "missed", "house"), ("mrm", "missed", "house"), ("mrr", "reached", "house"), ("rmm", "missed", "house"),
            ("rmr", "reached", "house"), ("rr", "reached", "house")])
        self.assertEqual(list(endings(run_house(Table.race(1), wrong=0), "run")), [
            ("m", "missed", "house"), ("r", "reached", "house")])
        self.assertEqual(list(endings(run_house(Table.race(0), wrong=1), "run")), [
            ("m", "missed", "table"), ("r", "reached", "table")])

    def test_the_table_and_the_house_at_the_same_try(self):
        table = Table(1, {(1, 0): "unsure", (0, 1): "reached"})
        self.assertEqual(list(endings(run_house(table), "run")), [("m", "missed", "house"), ("r", "reached", "house")])

    def test_tries_without_a_character(self):
        house = run_house(Table.race(1))
        house.learn(AtMost(A, 3), "s")
        self.assertEqual(list(endings(house, "run")), [("", "reached", "house")])

    def test_tries_after_which_no_world_fits(self):
        house = run_house(Table.race(1), wrong=0)
        house.learn(AtMost(A, 3), "s")
        house.place(Run("other", A, length=2, table=Table.race(1)), "s")
        self.assertEqual(list(endings(house, "other")), [("m", "missed", "house"), ("r", "reached", "house")])
        house.learn(within(A, 1, 1), "s")
        self.assertEqual(list(endings(house, "other")), [("", "reached", "house")])
        # One reading that cannot be true: no reading of the run leaves a world.
        house = run_house(Table(2, {(2, 0): "reached", (1, 1): "unsure", (0, 2): "missed"}), wrong=0)
        house.read("run", "rm")
        self.assertEqual(list(endings(house, "run")), [])

    def test_left_out_with_all_that_go_on_from_them(self):
        table = Table(3, {(3, 0): "reached", (2, 1): "unsure", (1, 2): "unsure", (0, 3): "missed"})
        house = run_house(table, wrong=1)
        house.place(Run("low", A, length=1, table=table), "s")
        for other in (house, house.twin()):
            found = list(endings(other, "run"))
            self.assertEqual(found, [("mm", "missed", "house"), ("mrm", "missed", "house"), ("mrr", "reached", "house"),
                                     ("rmm", "missed", "house"), ("rmr", "reached", "house"), ("rr", "reached", "house")])
        table = Table(2, {(2, 0): "reached", (1, 1): "unsure", (0, 2): "missed"})
        house = House()
        house.allow("p", 1)
        for name in ("run", "other"):
            house.place(Run(name, A, length=3, table=table), "s", "p")
        self.assertEqual(list(endings(house, "run")), [("mm", "missed", "table"), ("mr", "unsure", "table"),
                                                       ("rm", "unsure", "table"), ("rr", "reached", "table")])
        house.read("other", "rm")
        self.assertEqual(list(endings(house, "run")), [("m", "missed", "house"), ("r", "reached", "house")])
        house.allow("p", 0)
        self.assertEqual(list(endings(house, "run")), [])

    def test_errors_when_the_iteration_begins(self):
        house = run_house(Table.race(1))
        house.place(Ladder("l", A, length=3), "s")
        for _ in range(8):
            house.read("run", "r")
        for name, kind, has in (("no", UnknownInstrument, {"name": "no"}), ("l", NotRun, {"name": "l"}),
                                ("run", TooMany, {"what": "readings", "most": 8})):
            call = endings(house, name)
            self.refused(kind, next, call, has=has)
        house.drop("run", 0)
        self.assertEqual(list(endings(house, "run")), [("", "reached", "house")])

    def test_long_tables(self):
        table = Table(12, {(number, 12 - number): "unsure" for number in range(13)})
        found = list(endings(run_house(table, wrong=11), "run"))
        self.assertEqual(len(found), 2 ** 12)
        self.assertEqual(found[0], ("m" * 12, "missed", "house"))
        self.assertEqual(found[1], ("m" * 11 + "r", "unsure", "table"))

    def test_left_after_the_first(self):
        house = run_house(Table.race(2), wrong=2)
        before = contents(house)
        call = endings(house, "run")
        self.assertEqual(next(call), ("mmm", "missed", "house"))
        call.close()
        self.assertEqual(contents(house), before)
