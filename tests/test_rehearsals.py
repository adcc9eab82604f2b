"""Rehearsals: point 74; and House.run with instruments of all kinds."""

import random

from metehouse.claims import AtMost, Both
from metehouse.errors import BadDeed, BadLimit, Full, NothingToUndo, RunRefused, Taken
from metehouse.forms import Form
from metehouse.gauges import Gauge
from metehouse.house import House
from metehouse.rehearsals import Rehearsal, attempt
from metehouse.runs import Run
from metehouse.tables import Table
from tests.helping import Case
from tests.housing import some_house, some_instrument
from tests.test_house import contents, undone

A = Form.one("a")


def some_state():
    """A house with deeds in force and undone ones."""
    house = House(limit=50)
    house.run(("allow", "p", 1), ("place", Gauge("g", A), "s", "p"), ("read", "g", 3), ("learn", AtMost(A), "t"),
              ("place", Run("r", A, length=3, table=Table.race(1)), "s"), ("read", "r", "rm"), ("drop", "g", 0))
    house.undo()
    house.undo()
    return house


def shape(house):
    return (contents(house), undone(house))


class Strange(Exception):
    pass


class TestRehearsal(Case):
    def test_held_is_the_house(self):
        house = some_state()
        with Rehearsal(house) as held:
            self.assertIs(held, house)

    def test_everything_is_as_before(self):
        house = some_state()
        before = shape(house)
        with Rehearsal(house) as held:
            held.redo()
            held.allow("q", 3)
            held.read("g", 4)
            held.undo()
            held.drop("g", 0)
            held.change(9)
            self.assertNotEqual(shape(house), before)
        self.assertEqual(shape(house), before)
        self.assertEqual(house.redo(), "read r rm")

    def test_undo_of_what_was_there(self):
        house = some_state()
        before = shape(house)
        with Rehearsal(house):
            while house.history():
                house.undo()
            self.refused(NothingToUndo, house.undo)
            house.limit = 0
            self.refused(Full, house.redo, has={"limit": 0})
        self.assertEqual(shape(house), before)

    def test_an_error_passes(self):
        house = some_state()
        before = shape(house)
        with self.assertRaises(Strange):
            with Rehearsal(house) as held:
                held.learn(Both(), "u")
                raise Strange()
        self.assertEqual(shape(house), before)
        with self.assertRaises(Taken):
            with Rehearsal(house) as held:
                held.undo()
                held.place(Gauge("g", A), "s")
        self.assertEqual(shape(house), before)

    def test_one_within_another(self):
        house = some_state()
        before = shape(house)
        with Rehearsal(house):
            house.allow("q", 3)
            between = shape(house)
            with Rehearsal(house):
                house.undo()
                house.undo()
            self.assertEqual(shape(house), between)
        self.assertEqual(shape(house), before)

    def test_entered_again_later(self):
        house = some_state()
        rehearsal = Rehearsal(house)
        with rehearsal:
            house.allow("q", 3)
        house.allow("t", 4)
        before = shape(house)
        with rehearsal:
            house.undo()
            house.allow("u", 5)
        self.assertEqual(shape(house), before)
        house.undo()
        house.learn(Both(), "s")
        self.assertEqual(house.history()[-1], "learn s both")

    def test_a_house_that_was_changed_after_creating(self):
        house = some_state()
        rehearsal = Rehearsal(house)
        house.allow("t", 4)
        before = shape(house)
        with rehearsal:
            house.allow("t", 5)
        self.assertEqual(shape(house), before)

    def test_a_limit_is_put_back(self):
        house = House(limit=5)
        with Rehearsal(house):
            house.limit = 200
            for number in range(150):
                house.allow("p", number % 25)
        self.assertEqual((house.limit, len(house.history())), (5, 0))
        self.refused(BadLimit, house.change, -1, has={"limit": -1})


class TestAttempt(Case):
    def test_what_the_function_returns(self):
        house = some_state()
        before = shape(house)
        answer = object()
        seen = []

        def act(held):
            seen.append(held)
            held.read("g", 9)
            held.undo()
            held.redo()
            return answer
        self.assertIs(attempt(house, act), answer)
        self.assertIs(seen[0], house)
        self.assertEqual(shape(house), before)
        self.assertIsNone(attempt(house, lambda held: None))
        self.assertEqual(attempt(house, lambda held: held.read("g", 2)), 1)

    def test_what_the_function_raises(self):
        house = some_state()
        before = shape(house)
        error = Strange()

        def act(held):
            held.undo()
            raise error
        with self.assertRaises(Strange) as caught:
            attempt(house, act)
        self.assertIs(caught.exception, error)
        self.refused(Full, attempt, house, lambda held: (held.change(5), held.redo()), has={"limit": 5})
        self.assertEqual(shape(house), before)


class TestRunOfAllKinds(Case):
    def deeds(self, chance):
        """Deeds that are all right, on an empty house."""
        found = [("allow", "p", 2)]
        told = []
        for name in "abcdef":
            instrument, telling = some_instrument(chance, name, ["x", "y"])
            found.append(("place", instrument, "s", chance.choice(["p", None])))
            told.append((name, telling))
        found += [("read", name, telling) for name, telling in told]
        found += [("learn", AtMost(A), "s"), ("drop", "a", 0), ("allow", "p", 3)]
        return found

    def test_one_by_one(self):
        for seed in range(20):
            deeds = self.deeds(random.Random(seed))
            house, other = House(), House()
            returned = house.run(*deeds)
            self.assertEqual(returned, [getattr(other, deed[0])(*deed[1:]) for deed in deeds])
            self.assertEqual(contents(house), contents(other))

    def test_each_deed_refused_at_each_place(self):
        for bad in (("allow", "P", 1), ("place", Gauge("a", A), "s"), ("read", "a", "no such telling"),
                    ("learn", Both(), "S"), ("drop", "a", 8), ("tell", "a", 1), ("undo",), ("",)):
            deeds = self.deeds(random.Random(3))
            for index in range(2, len(deeds) + 1):
                house = some_house(random.Random(index), ["x"], instruments=0)
                house.allow("z", 1)
                house.undo()
                before = shape(house)
                error = self.refused(RunRefused, house.run, *deeds[:index], bad, *deeds[index:], has={"index": index})
                self.assertEqual(shape(house), before)
                if bad[0] in ("tell", "undo", ""):
                    self.assertIs(type(error.__cause__), BadDeed)
                    self.assertEqual(error.__cause__.word, bad[0])
                self.assertEqual(house.redo(), "allow z 1")

    def test_full(self):
        house = House(limit=3)
        deeds = self.deeds(random.Random(3))
        error = self.refused(RunRefused, house.run, *deeds, has={"index": 3})
        self.assertIs(type(error.__cause__), Full)
        self.assertEqual(house.history(), [])
