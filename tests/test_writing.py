"""Writing houses: points 77 to 79, with the lines of point 71."""

import random

from metehouse.claims import AtMost, Below, Both
from metehouse.errors import BadDeed, BadLimit, BadLine, BadName, BadReading, BadText, Full, NoReading, RunRefused, Taken
from metehouse.errors import TooMany, UnknownBudget, UnknownInstrument
from metehouse.forms import Form
from metehouse.gauges import Gauge
from metehouse.house import House
from metehouse.instruments import Balance
from metehouse.runs import Run
from metehouse.tables import Table
from metehouse.writing import read_house, replay, roll, write_house
from tests.helping import Case
from tests.housing import some_house
from tests.test_house import contents, undone, word_of

A = Form.one("a")
TEXT = """allow p 1
allow q 2
place east p gauge g 1 : a
read g 4
read g -5
place west - run r 5 0 0 : a ; 1 0 1 missed 1 0 reached
read r -
read r m
place east q balance b 0 : a ; b
learn east a - 3 <= 0
learn north both"""


def held(house):
    """What a house holds, without its limit and deeds."""
    found = contents(house)
    return {word: found[word] for word in found if word not in ("limit", "history")}


class TestWriting(Case):
    def test_lines(self):
        house = House()
        house.allow("p", 4)
        house.place(Gauge("g", A, radius=1), "east", "p")
        house.learn(AtMost(A, 3), "east")
        house.allow("q", 2)
        house.place(Run("r", A, length=5, table=Table.race(0)), "west")
        house.read("r", "")
        house.read("g", 4)
        house.read("r", "m")
        house.allow("p", 1)
        house.learn(Both(), "north")
        house.place(Balance("b", A, Form.one("b")), "east", "q")
        house.read("g", -5)
        self.assertEqual(write_house(house), TEXT)

    def test_dropped_and_undone_things(self):
        house = read_house(TEXT)
        house.drop("g", 0)
        house.undo()
        house.drop("r", 1)
        house.learn(Below(A), "s")
        house.undo()
        self.assertEqual(write_house(house), TEXT.replace("\nread r m", ""))

    def test_empty(self):
        self.assertEqual(write_house(House()), "")
        self.assertEqual(contents(read_house("")), contents(House(limit=200)))

    def test_written_read_and_written_again(self):
        for seed in range(150):
            house = some_house(random.Random(seed), ["a", "b", "c.1"], instruments=8, facts=4)
            text = write_house(house)
            other = read_house(text)
            self.assertEqual(held(other), held(house))
            self.assertEqual(write_house(other), text)
            self.assertEqual(other.history(), text.split("\n") if text else [])
            self.assertEqual((other.limit, undone(other)), (200, []))
            for name in house.names():
                self.assertTrue(other.instrument(name) == house.instrument(name))

    def test_history_and_limit(self):
        house = read_house(TEXT)
        self.assertEqual((house.history(), house.limit), (TEXT.split("\n"), 200))
        self.assertEqual(house.undo(), "learn north both")
        self.assertEqual(house.readings("r"), ["", "m"])
        self.assertEqual(house.readings("g"), [4, -5])
        self.assertIsNone(house.budget_of("r"))


class TestReadingHouses(Case):
    def wrong(self, line, *lines):
        """The text of these lines is wrong in the line with this number, counted from 1."""
        self.refused(BadLine, read_house, "\n".join(lines), has={"line": line})

    def test_no_lines(self):
        for line in (" ", "allow", "allow p", "allow p x", "allow p 01", "allow p +1", "allow p 1 ", " allow p 1",
                     "allow  p 1", "allow p  1", "allow p 1 1", "Allow p 1", "allow p " + "1" * 41, "place s - gauge g 0 : b - a",
                     "place s gauge g 0 : a", "place s -", "place - gauge g 0 : a", "place", "place s - ", "place  - gauge g 0 : a",
                     "learn s", "learn a < 0", "learn s a < 1", "learn s  a < 0", "learn  a < 0", "learn s a < 0 ", "learn", "drop g 0",
                     "undo", "read", "#", "deed s 1"):
            self.wrong(1, line)
            self.wrong(2, "allow p 1", line)

    def test_empty_lines(self):
        self.wrong(1, "", "allow p 1")
        self.wrong(2, "allow p 1", "")
        self.wrong(1, "", "")
        self.wrong(2, "allow p 1", "", "allow q 1")

    def test_drop_is_no_line_of_a_written_house(self):
        self.wrong(3, "place s - gauge g 0 : a", "read g 1", "drop g 0")

    def test_order(self):
        place, other = "place s - gauge g 0 : a", "place s - gauge h 0 : a"
        self.wrong(2, place, "allow p 1")
        self.wrong(3, place, "read g 1", "allow p 1")
        self.wrong(2, "learn s both", "allow p 1")
        self.wrong(2, "learn s both", place)
        self.wrong(3, place, "learn s both", "read g 1")
        self.wrong(1, "read g 1")
        self.wrong(2, "allow p 1", "read g 1")
        self.wrong(3, place, other, "read g 1")
        self.wrong(2, place, "read h 1", other)
        self.assertEqual(read_house("\n".join([place, "read g 1", "read g 2", other, "read h 1"])).readings("h"), [1])

    def test_a_second_allow(self):
        self.wrong(3, "allow p 1", "allow q 1", "allow p 1")
        self.wrong(2, "allow p 1", "allow p 2")

    def test_deeds_that_raise_an_error(self):
        self.wrong(1, "allow P 1")
        self.wrong(1, "allow p 25")
        self.wrong(2, "allow p 1", "allow q -1")
        self.wrong(9, *[f"allow {word_of(number)} 1" for number in range(9)])
        self.wrong(1, "place s p gauge g 0 : a")
        self.wrong(1, "place S - gauge g 0 : a")
        self.wrong(2, "place s - gauge g 0 : a", "place s - gauge g 1 : a")
        self.wrong(2, "place s - gauge g 0 : a", "read g x")
        self.wrong(2, "place s - gauge g 0 : a", "read g -")
        self.wrong(2, "place s - gauge g 0 : a", "read g 01")
        self.wrong(2, "place s - gauge g 0 : a", "read g " + "1" * 41)
        self.wrong(10, "place s - gauge g 0 : a", *["read g 1"] * 9)
        self.wrong(25, *[f"place s - gauge {word_of(number)} 0 : a" for number in range(25)])
        self.wrong(41, *["learn s both"] * 41)
        self.wrong(1, "learn S both")

    def test_the_first_wrong_line(self):
        self.wrong(2, "allow p 1", "allow p 2", "nothing", "")
        self.wrong(1, "nothing", "allow p 1")

    def test_more_lines_than_deeds(self):
        lines = [f"allow {word_of(number)} 1" for number in range(8)]
        for number in range(24):
            lines += [f"place s - gauge {word_of(number)} 0 : a"] + [f"read {word_of(number)} 1"] * 8
        self.assertEqual(len(read_house("\n".join(lines[:200])).history()), 200)
        self.wrong(201, *lines)

    def test_long_tellings(self):
        number = 10 ** 40 - 1
        house = read_house(f"place s - gauge g 0 : a\nread g {number}\nread g -{number}")
        self.assertEqual(house.readings("g"), [number, -number])


class TestReplay(Case):
    LINES = [
        "learn s both", "allow p 1", "place s p gauge g 0 : a", "read g 3", "allow p 2", "read g -4", "drop g 0", "learn t a < 0",
        "place t - run r 3 0 1 : b ; 1 0 1 missed 1 0 reached", "read r -", "read r r", "read g 7"]

    def test_all_five_forms(self):
        house = replay(self.LINES)
        self.assertEqual((house.history(), house.limit, undone(house)), (self.LINES, 200, []))
        self.assertEqual((house.readings("g"), house.readings("r"), house.budgets()), ([-4, 7], ["", "r"], {"p": 2}))
        self.assertEqual(contents(replay([])), contents(House(limit=200)))

    def test_histories(self):
        for seed in range(60):
            chance = random.Random(seed)
            house = some_house(chance, ["a", "b"], instruments=6)
            for _ in range(10):
                deed = chance.randrange(5)
                names = [name for name in house.names() if house.readings(name)]
                if deed < 2 and house.history():
                    house.undo()
                elif deed == 2 and names:
                    house.drop(chance.choice(names), 0)
                elif deed == 3:
                    house.allow("p", chance.randint(0, 24))
                else:
                    house.learn(Both(), "s")
            other = replay(house.history())
            self.assertEqual(held(other), held(house))
            self.assertEqual(other.history(), house.history())

    def test_the_list_is_not_kept(self):
        lines = list(self.LINES)
        house = replay(lines)
        lines.clear()
        self.assertEqual(house.history(), self.LINES)

    def test_refused(self):
        for line, kind, has in [
                ("", BadText, {"text": ""}), ("drop g", BadText, {"text": "drop g"}), ("drop g x", BadText, {"text": "drop g x"}),
                ("undo", BadText, {"text": "undo"}), ("allow p 1\n", BadText, {"text": "allow p 1\n"}),
                ("read g", BadText, {"text": "read g"}), ("read g 1 2", BadText, {"text": "read g 1 2"}),
                ("allow p 0" + "1" * 40, BadText, {"text": "allow p 0" + "1" * 40}), ("read  g 1", BadText, {"text": "read  g 1"}),
                ("place t - gauge  h 0 : a", BadText, {"text": "place t - gauge  h 0 : a"}),
                ("learn t a < 1", BadText, {"text": "learn t a < 1"}), ("drop g 0" + "0" * 40, BadText, {"text": "drop g 0" + "0" * 40}),
                ("allow P 1", BadName, {"name": "P"}), ("allow p 25", BadLimit, {"limit": 25}),
                ("allow p -1", BadLimit, {"limit": -1}), ("place t q gauge h 0 : a", UnknownBudget, {"name": "q"}),
                ("place t P gauge h 0 : a", UnknownBudget, {"name": "P"}), ("place T - gauge h 0 : a", BadName, {"name": "T"}),
                ("place t - gauge g 0 : b", Taken, {"name": "g"}), ("read h 1", UnknownInstrument, {"name": "h"}),
                ("read H 1", UnknownInstrument, {"name": "H"}), ("read g x", BadReading, {"name": "g", "told": "x"}),
                ("read g -", BadReading, {"name": "g", "told": ""}), ("read g 01", BadReading, {"name": "g", "told": "01"}),
                ("read r 1", BadReading, {"name": "r", "told": 1}), ("drop g 2", NoReading, {"name": "g", "index": 2}),
                ("read g " + "1" * 41, BadReading, {"name": "g", "told": "1" * 41}),
                ("drop g -1", NoReading, {"name": "g", "index": -1}), ("learn T both", BadName, {"name": "T"})]:
            for at in (len(self.LINES), len(self.LINES) + 1):
                lines = [*self.LINES, "allow p 3", "no line"]
                lines.insert(at, line)
                error = self.refused(RunRefused, replay, lines, has={"index": at})
                self.assertIs(type(error.__cause__), kind, line)
                self.assertEqual(vars(error.__cause__), has, line)

    def test_too_many(self):
        error = self.refused(RunRefused, replay, ["allow p 1"] * 201, has={"index": 200})
        self.assertEqual((type(error.__cause__), vars(error.__cause__)), (Full, {"limit": 200}))
        error = self.refused(RunRefused, replay, ["learn s both"] * 41, has={"index": 40})
        self.assertIs(type(error.__cause__), TooMany)
        self.assertIsNot(type(error.__cause__), BadDeed)


class TestRoll(Case):
    def test_columns(self):
        house = House()
        house.allow("budgetxy", 1)
        house.allow("p", 1)
        house.place(Gauge("abcdefgh", A), "sectionx", "budgetxy")
        house.place(Gauge("z", A), "s", "p")
        house.place(Gauge("a", A), "s")
        for number in range(8):
            house.read("abcdefgh", number)
        house.read("z", 0)
        self.assertEqual(roll(house), [
            "abcdefgh sectionx budgetxy  8", "z        s        p         1", "a        s        -         0"])
        self.assertEqual(roll(House()), [])

    def test_new_list(self):
        house = read_house(TEXT)
        before = roll(house)
        roll(house).clear()
        self.assertEqual(roll(house), before)
        self.assertEqual([len(line) for line in before], [29, 29, 29])
