import unittest

from metehouse.claims import AtMost, Below, Both, Either, Same, within
from metehouse.errors import BadDeed, BadLimit, BadName, BadReading, Full, NoFact, NoReading, NothingToRedo
from metehouse.errors import NothingToUndo, RunRefused, Taken, TooMany, TooWide, UnknownBudget, UnknownInstrument
from metehouse.errors import UnknownSection
from metehouse.forms import Form
from metehouse.house import House
from tests.helping import Case

A, B = Form.one("a"), Form.one("b")


class Dial:
    """A small instrument: it tells an even number near its form, or a word without a sound."""

    def __init__(self, name, form=A):
        self.name = name
        self.form = form

    def says(self, told):
        if told == "":
            return Both()
        if told == "far":
            return Either(Below(self.form, -9), Below(-self.form, -9))
        if type(told) is not int or told % 2 != 0:
            raise BadReading(self.name, told)
        return within(self.form, told - 1, told + 1)

    def names(self):
        return self.form.names()

    def __str__(self):
        return f"dial {self.name} : {self.form}"


def word_of(number):
    return "abcdefghijklmnopqrstuvwxyz"[number // 26] + "abcdefghijklmnopqrstuvwxyz"[number % 26]


def small_house(**named):
    """Two budgets, three instruments in two sections, and three facts."""
    house = House(**named)
    house.allow("g", 1)
    house.allow("b", 2)
    house.place(Dial("y"), "north", "g")
    house.place(Dial("x", A - B), "south")
    house.place(Dial("w", B + 1), "north", "b")
    house.read("x", 4)
    house.read("y", "far")
    house.read("x", -6)
    house.learn(AtMost(Form.one("q.1"), 3), "east")
    house.learn(Below(B), "south")
    house.learn(Same(A), "east")
    return house


def contents(house):
    """All that a house can be asked about."""
    return {
        "limit": house.limit, "history": house.history(), "names": house.names(), "sections": house.sections(),
        "budgets": house.budgets(), "order": list(house.budgets()), "facts": [(s, str(c)) for s, c in house.facts()],
        "readings": {name: house.readings(name) for name in house.names()},
        "places": [(house.section_of(name), house.budget_of(name)) for name in house.names()],
        "instruments": [str(house.instrument(name)) for name in house.names()],
        "quantities": house.quantities(), "length": len(house)}


def undone(house):
    """The lines that the house can do again."""
    twin = house.twin()
    twin.limit = 200
    lines = []
    while True:
        try:
            lines.append(twin.redo())
        except NothingToRedo:
            return lines


class HouseCase(Case):
    def stays(self, house, kind, call, *args, **named):
        """The call is refused and changes nothing, undone deeds included."""
        before, again = contents(house), undone(house)
        error = self.refused(kind, call, *args, **named)
        self.assertEqual((contents(house), undone(house)), (before, again))
        return error


class TestAsking(HouseCase):
    def test_empty(self):
        house = House()
        self.assertEqual(contents(house), {
            "limit": 100, "history": [], "names": [], "sections": [], "budgets": {}, "order": [], "facts": [],
            "readings": {}, "places": [], "instruments": [], "quantities": [], "length": 0})
        self.assertIs("x" in house, False)

    def test_contents(self):
        house = small_house()
        self.assertEqual(house.names(), ["y", "x", "w"])
        self.assertEqual(house.sections(), ["north", "south", "east"])
        self.assertEqual(house.budgets(), {"g": 1, "b": 2})
        self.assertEqual([house.readings(name) for name in "xyw"], [[4, -6], ["far"], []])
        self.assertEqual([house.section_of(name) for name in "xyw"], ["south", "north", "north"])
        self.assertEqual([house.budget_of(name) for name in "xyw"], [None, "g", "b"])
        self.assertEqual([str(claim) for _, claim in house.facts()], ["q.1 - 3 <= 0", "b < 0", "a = 0"])
        self.assertEqual([section for section, _ in house.facts()], ["east", "south", "east"])
        self.assertKind(house.facts()[0], tuple)
        self.assertEqual(house.quantities(), ["a", "b", "q.1"])
        self.assertEqual(len(house), 3)
        self.assertIs("x" in house, True)
        self.assertIs("g" in house, False)

    def test_the_instrument_itself(self):
        house = House()
        dial = Dial("x")
        house.place(dial, "s")
        self.assertIs(house.instrument("x"), dial)

    def test_quantities_of_instruments_without_readings(self):
        house = House()
        house.place(Dial("x", Form([("z", 1), ("k", 2)])), "s")
        self.assertEqual(house.quantities(), ["k", "z"])
        house.learn(Both(), "s")
        self.assertEqual(house.quantities(), ["k", "z"])

    def test_unknown_instruments(self):
        house = small_house()
        for call in (house.readings, house.section_of, house.budget_of, house.instrument, house.says):
            self.refused(UnknownInstrument, call, "g", has={"name": "g"})

    def test_says(self):
        house = small_house()
        self.assertEqual(house.says("x"), Both(within(A - B, 3, 5), within(A - B, -7, -5)))
        self.assertEqual(house.says("w"), Both())
        for _ in range(5):
            house.read("y", "far")
        self.assertEqual(house.says("y").width, 64)
        house.read("y", "far")
        self.refused(TooWide, house.says, "y", has={"width": 128})

    def test_results_are_new(self):
        house = small_house()
        before = contents(house)
        house.history().append("x")
        house.names().clear()
        house.sections().clear()
        house.budgets()["g"] = 9
        house.readings("x").append(2)
        house.facts().clear()
        house.quantities().clear()
        house.run(("read", "w", 2))
        house.undo()
        self.assertEqual(contents(house), before)


class TestAllow(HouseCase):
    def test_old_and_new_budgets(self):
        house = House()
        self.assertIsNone(house.allow("g", 0))
        house.allow("b", 24)
        house.allow("g", 7)
        self.assertEqual(list(house.budgets().items()), [("g", 7), ("b", 24)])
        self.assertEqual(house.history(), ["allow g 0", "allow b 24", "allow g 7"])

    def test_errors_in_order(self):
        house = House()
        for number in range(8):
            house.allow(word_of(number), 0)
        self.stays(house, BadName, house.allow, "G", 25, has={"name": "G"})
        self.stays(house, BadLimit, house.allow, "new", 25, has={"limit": 25})
        self.stays(house, BadLimit, house.allow, "aa", -1, has={"limit": -1})
        self.stays(house, TooMany, house.allow, "new", 24, has={"what": "budgets", "most": 8})
        house.allow("aa", 24)
        self.assertEqual(len(house.budgets()), 8)


class TestPlace(HouseCase):
    def test_lines(self):
        house = House()
        house.allow("g", 1)
        self.assertIsNone(house.place(Dial("x"), "s"))
        house.place(Dial("y"), "s", "g")
        house.place(Dial("z"), "t", budget="g")
        house.place(Dial("zz"), "t", None)
        self.assertEqual(house.history()[1:], [
            "place s - dial x : a", "place s g dial y : a", "place t g dial z : a", "place t - dial zz : a"])

    def test_errors_in_order(self):
        house = House()
        for number in range(24):
            house.place(Dial(word_of(number)), "s")
        self.stays(house, Taken, house.place, Dial("aa"), "S", "no", has={"name": "aa"})
        self.stays(house, BadName, house.place, Dial("new"), "S", "no", has={"name": "S"})
        self.stays(house, UnknownBudget, house.place, Dial("new"), "s", "no", has={"name": "no"})
        self.stays(house, TooMany, house.place, Dial("new"), "s", has={"what": "instruments", "most": 24})
        house.undo()
        house.place(Dial("new"), "s")
        self.assertEqual(len(house), 24)


class TestReadAndDrop(HouseCase):
    def test_indexes(self):
        house = House()
        house.place(Dial("x"), "s")
        self.assertEqual([house.read("x", told) for told in (2, "far", -2, "", 2)], [0, 1, 2, 3, 4])
        self.assertEqual(house.drop("x", 1), "far")
        self.assertEqual(house.readings("x"), [2, -2, "", 2])
        self.assertEqual(house.drop("x", 2), "")
        self.assertEqual(house.read("x", 0), 3)
        self.assertEqual(house.readings("x"), [2, -2, 2, 0])
        self.assertEqual(house.history()[1:], [
            "read x 2", "read x far", "read x -2", "read x -", "read x 2", "drop x 1", "drop x 2", "read x 0"])

    def test_errors_of_read_in_order(self):
        house = House()
        house.place(Dial("x"), "s")
        for _ in range(8):
            house.read("x", 10 ** 29)
        self.stays(house, UnknownInstrument, house.read, "y", 3, has={"name": "y"})
        self.stays(house, BadReading, house.read, "x", 3, has={"name": "x", "told": 3})
        self.stays(house, BadReading, house.read, "x", [1], has={"name": "x", "told": [1]})
        self.stays(house, TooMany, house.read, "x", 2, has={"what": "readings", "most": 8})
        house.drop("x", 7)
        self.assertEqual(house.read("x", 4), 7)

    def test_errors_of_drop_in_order(self):
        house = House()
        house.place(Dial("x"), "s")
        house.read("x", 2)
        self.stays(house, UnknownInstrument, house.drop, "y", -1, has={"name": "y"})
        for index in (-1, 1, 10 ** 29):
            self.stays(house, NoReading, house.drop, "x", index, has={"name": "x", "index": index})


class TestLearn(HouseCase):
    def test_indexes_and_lines(self):
        house = House()
        self.assertEqual([house.learn(AtMost(A), "s"), house.learn(Both(), "t"), house.learn(AtMost(A), "s")], [0, 1, 2])
        self.assertEqual(house.history(), ["learn s a <= 0", "learn t both", "learn s a <= 0"])

    def test_errors_in_order(self):
        house = House()
        for number in range(40):
            self.assertEqual(house.learn(Below(A, number), "s"), number)
        self.stays(house, BadName, house.learn, Both(), "s.t", has={"name": "s.t"})
        self.stays(house, TooMany, house.learn, Both(), "s", has={"what": "facts", "most": 40})
        house.undo()
        self.assertEqual(house.learn(Both(), "s"), 39)


class TestLimit(HouseCase):
    def test_bounds(self):
        self.assertEqual(House.MOST_DEEDS, 200)
        for limit in (0, 1, 200):
            self.assertEqual(House(limit=limit).limit, limit)
        for limit in (-1, 201, 10 ** 29):
            self.refused(BadLimit, House, limit=limit, has={"limit": limit})

    def test_full_comes_first(self):
        house = House(limit=0)
        full = {"limit": 0}
        self.stays(house, Full, house.allow, "B", 99, has=full)
        self.stays(house, Full, house.place, Dial("x"), "S", "no", has=full)
        self.stays(house, Full, house.read, "x", "bad", has=full)
        self.stays(house, Full, house.learn, Both(), "S", has=full)
        self.stays(house, Full, house.drop, "x", -1, has=full)

    def test_as_many_deeds_as_the_limit(self):
        house = House(limit=200)
        for number in range(200):
            house.allow("g", number % 25)
        self.stays(house, Full, house.allow, "g", 1, has={"limit": 200})
        house.undo()
        house.allow("g", 3)
        self.assertEqual(len(house.history()), 200)

    def test_assign_and_change(self):
        house = small_house()
        self.assertIsNone(house.change(11))
        self.assertEqual(house.limit, 11)
        house.limit = 200
        self.assertEqual(house.limit, 200)

        def assign(limit):
            house.limit = limit
        for limit in (10, -1, 201):
            self.stays(house, BadLimit, house.change, limit, has={"limit": limit})
            self.stays(house, BadLimit, assign, limit, has={"limit": limit})
        house.undo()
        house.limit = 10
        self.assertEqual(undone(house), ["learn east a = 0"])
        self.assertEqual(house.limit, 10)

    def test_redo_can_be_full(self):
        house = House(limit=2)
        house.allow("g", 1)
        house.allow("g", 2)
        house.undo()
        house.change(1)
        self.stays(house, Full, house.redo, has={"limit": 1})
        house.limit = 2
        self.assertEqual(house.redo(), "allow g 2")
        self.stays(house, NothingToRedo, house.redo)

    def test_nothing_to_redo_comes_first(self):
        self.refused(NothingToRedo, House(limit=0).redo)


class TestUndo(HouseCase):
    def test_back_and_forth(self):
        house = small_house()
        states = [contents(house)]
        lines = house.history()
        for line in reversed(lines):
            self.assertEqual(house.undo(), line)
            states.append(contents(house))
        self.assertEqual(states[-1], contents(House()))
        self.stays(house, NothingToUndo, house.undo)
        for line in lines:
            self.assertEqual(contents(house), states.pop())
            self.assertEqual(house.redo(), line)
        self.assertEqual([contents(house)], states)

    def test_every_kind_of_deed(self):
        house = small_house()
        before = contents(house)
        for deed in [lambda: house.allow("g", 5), lambda: house.allow("new", 5), lambda: house.drop("x", 0),
                     lambda: house.read("x", 2), lambda: house.place(Dial("v"), "west"), lambda: house.learn(Both(), "s")]:
            deed()
            after = contents(house)
            self.assertEqual(house.undo(), after["history"][-1])
            self.assertEqual(contents(house), before)
            self.assertEqual(house.redo(), after["history"][-1])
            self.assertEqual(contents(house), after)
            house.undo()

    def test_a_new_deed_forgets_undone_ones(self):
        house = small_house()
        house.undo()
        house.undo()
        self.stays(house, BadName, house.allow, "B", 1, has={"name": "B"})
        self.assertEqual(undone(house), ["learn south b < 0", "learn east a = 0"])
        house.redo()
        self.assertEqual(undone(house), ["learn east a = 0"])
        house.learn(Both(), "s")
        self.stays(house, NothingToRedo, house.redo)

    def test_redo_gives_back_the_place_of_a_budget(self):
        house = House()
        house.allow("z", 1)
        house.allow("a", 1)
        house.allow("z", 2)
        house.undo()
        self.assertEqual(list(house.budgets().items()), [("z", 1), ("a", 1)])
        house.redo()
        self.assertEqual(list(house.budgets().items()), [("z", 2), ("a", 1)])


class TestOtherHouses(HouseCase):
    def fresh(self, house, made):
        """The new house has the limit of the old one, and no deeds."""
        self.assertEqual((made.limit, made.history(), undone(made)), (house.limit, [], []))
        self.refused(NothingToUndo, made.undo)
        self.refused(NothingToRedo, made.redo)

    def apart(self, house, made):
        """Changes of one house are none of the other one."""
        before, again = contents(house), undone(house)
        made.allow("new", 3)
        made.learn(Both(), "new")
        made.limit = 150
        if len(made) > 0:
            made.read(made.names()[0], 0)
        self.assertEqual((contents(house), undone(house)), (before, again))
        held = contents(made)
        house.learn(Both(), "other")
        house.read("w", 2)
        house.change(190)
        self.assertEqual(contents(made), held)

    def test_part(self):
        house = small_house(limit=77)
        made = house.part("north", "east", "north")
        self.fresh(house, made)
        self.assertEqual((made.names(), made.readings("y"), made.budgets()), (["y", "w"], ["far"], {"g": 1, "b": 2}))
        self.assertEqual([str(claim) for _, claim in made.facts()], ["q.1 - 3 <= 0", "a = 0"])
        self.assertEqual(made.sections(), ["north", "east"])
        self.assertEqual((made.budget_of("y"), made.section_of("w")), ("g", "north"))
        self.apart(house, made)

    def test_part_of_nothing(self):
        house = small_house()
        made = house.part()
        self.assertEqual((made.names(), made.facts(), made.budgets()), ([], [], {"g": 1, "b": 2}))
        self.stays(house, UnknownSection, house.part, "north", "g", "no", has={"name": "g"})
        self.refused(UnknownSection, House().part, "s", has={"name": "s"})

    def test_part_keeps_the_order(self):
        house = small_house()
        made = house.part("east", "south", "north")
        held = contents(made)
        held["history"] = house.history()
        self.assertEqual(held, contents(house))

    def test_blaming(self):
        house = small_house(limit=78)
        made = house.blaming("x", "w", "x")
        self.fresh(house, made)
        self.assertEqual(made.budgets(), {"g": 0, "b": 0})
        self.assertEqual([made.readings(name) for name in "xyw"], [[], ["far"], []])
        self.assertEqual((made.names(), made.facts() == house.facts()), (house.names(), True))
        self.assertEqual(house.blaming().readings("x"), [4, -6])
        self.stays(house, UnknownInstrument, house.blaming, "x", "no", "q", has={"name": "no"})
        self.apart(house, made)

    def test_keeping(self):
        house = small_house(limit=79)
        made = house.keeping(("fact", 2), ("instrument", "x"), ("fact", 0), ("fact", 2))
        self.fresh(house, made)
        self.assertEqual([made.readings(name) for name in "xyw"], [[4, -6], [], []])
        self.assertEqual([str(claim) for _, claim in made.facts()], ["q.1 - 3 <= 0", "a = 0"])
        self.assertEqual((made.budgets(), made.names()), (house.budgets(), house.names()))
        self.apart(house, made)

    def test_keeping_nothing_and_what_is_not_there(self):
        house = small_house()
        made = house.keeping()
        self.assertEqual((made.facts(), [made.readings(name) for name in "xyw"]), ([], [[], [], []]))
        for index in (-1, 3, 10 ** 29):
            self.stays(house, NoFact, house.keeping, ("fact", 0), ("fact", index), ("instrument", "no"), has={"index": index})
        self.stays(house, UnknownInstrument, house.keeping, ("instrument", "no"), ("fact", 9), has={"name": "no"})

    def test_twin(self):
        house = small_house(limit=80)
        house.undo()
        house.undo()
        made = house.twin()
        self.assertEqual((contents(made), undone(made)), (contents(house), undone(house)))
        self.assertEqual(made.redo(), "learn south b < 0")
        self.assertEqual(undone(house), ["learn south b < 0", "learn east a = 0"])
        made.undo()
        self.apart(house, made)
        self.assertEqual(house.twin().undo(), "read w 2")

    def test_undo_in_a_house_without_deeds(self):
        made = small_house().part("north")
        made.allow("g", 9)
        self.assertEqual(made.undo(), "allow g 9")
        self.refused(NothingToUndo, made.undo)
        self.assertEqual(made.budgets(), {"g": 1, "b": 2})


class TestRun(HouseCase):
    def test_all_deeds(self):
        house = House()
        dial = Dial("x")
        returned = house.run(
            ("allow", "g", 1), ("place", dial, "s", "g"), ("place", Dial("y"), "s"), ("read", "x", 4), ("read", "x", "far"),
            ("learn", Both(), "s"), ("drop", "x", 0), ("place", Dial("z"), "s", None))
        self.assertEqual(returned, [None, None, None, 0, 1, 0, 4, None])
        self.assertKind(returned, list)
        self.assertEqual(house.history(), [
            "allow g 1", "place s g dial x : a", "place s - dial y : a", "read x 4", "read x far", "learn s both",
            "drop x 0", "place s - dial z : a"])
        self.assertEqual(house.undo(), "place s - dial z : a")
        self.assertIs(house.instrument("x"), dial)

    def test_without_deeds(self):
        house = small_house()
        house.undo()
        before, again = contents(house), undone(house)
        self.assertEqual(house.run(), [])
        self.assertEqual((contents(house), undone(house)), (before, again))

    def test_deeds_forget_undone_ones(self):
        house = small_house()
        house.undo()
        self.assertEqual(house.run(("allow", "g", 2)), [None])
        self.refused(NothingToRedo, house.redo)

    def test_all_or_nothing(self):
        house = small_house()
        house.undo()
        good = ("allow", "g", 2)
        for deeds, index, kind, has in [
                ([good, ("read", "x", 3), ("deed",)], 1, BadReading, {"name": "x", "told": 3}),
                ([("place", Dial("x"), "s")], 0, Taken, {"name": "x"}),
                ([good, good, ("drop", "x", 2)], 2, NoReading, {"name": "x", "index": 2}),
                ([("learn", Both(), "S"), good], 0, BadName, {"name": "S"}),
                ([good, ("undo",)], 1, BadDeed, {"word": "undo"}),
                ([("run",)], 0, BadDeed, {"word": "run"}),
                ([good, (7, 8)], 1, BadDeed, {"word": 7})]:
            error = self.stays(house, RunRefused, house.run, *deeds, has={"index": index})
            self.assertIs(type(error.__cause__), kind)
            self.assertEqual(vars(error.__cause__), has)

    def test_full(self):
        house = House(limit=2)
        house.allow("g", 1)
        error = self.stays(house, RunRefused, house.run, ("allow", "b", 1), ("read", "no", 1), has={"index": 1})
        self.assertEqual((type(error.__cause__), error.__cause__.limit), (Full, 2))
        error = self.stays(house, RunRefused, house.run, ("allow", "b", 1), ("no", 1), has={"index": 1})
        self.assertIs(type(error.__cause__), BadDeed)

    def test_a_later_change_is_no_part_of_the_run(self):
        house = House()
        house.run(("allow", "g", 1))
        other = house.twin()
        house.allow("b", 1)
        self.assertEqual(other.history(), ["allow g 1"])


if __name__ == "__main__":
    unittest.main()
