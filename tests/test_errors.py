import unittest

from metehouse import errors
from metehouse.errors import MeteError

CLASSES = """
BadName(name) NoQuantity(name) Taken(name) Unlike(name) UnknownInstrument(name) UnknownBudget(name)
UnknownSection(name) NotRun(name) NoTellings(name) BadNumber(number) NotPossible(number) BadLimit(limit) Full(limit)
TooWide(width) TooDeep(depth) TooMany(what,most) BadStretch(stretch) NoValue() BadReading(name,told)
NoReading(name,index) NoTick(tick) NoStory(tick) BadShape(shape) NoPlace(row,column) NoWell(index) NotTold(moves)
Clash(ring) NoBlock(index) NoWalk(first,second) BadSign(sign) NoNet(ring) BadTable(fault) BadTries(tries)
NoFact(index) NoWorld(tree) NotSure(word) BadDeed(word) RunRefused(index) BadText(text) BadLine(line)
NothingToUndo() NothingToRedo()
""".split()


def split(text):
    word, _, rest = text.partition("(")
    return word, [part for part in rest[:-1].split(",") if part]


class TestErrors(unittest.TestCase):
    def test_all_classes_with_their_attributes(self):
        for text in CLASSES:
            word, names = split(text)
            kind = getattr(errors, word)
            for values in ([7, 8], ["a", "b"], [None, ("x", 1)], [{"a": 1}, [1, 2]], [10 ** 40, -1]):
                values = values[:len(names)]
                error = kind(*values)
                self.assertEqual([getattr(error, name) for name in names], values)
                self.assertEqual(vars(kind(**dict(zip(names, values)))), dict(zip(names, values)))
                self.assertIsInstance(str(error), str)

    def test_no_other_class(self):
        found = {name for name, value in vars(errors).items() if isinstance(value, type)}
        self.assertEqual(found, {split(text)[0] for text in CLASSES} | {"MeteError"})

    def test_family(self):
        self.assertEqual(MeteError.__bases__, (ValueError,))
        for text in CLASSES:
            self.assertEqual(getattr(errors, split(text)[0]).__bases__, (MeteError,))

    def test_a_width_of_any_size(self):
        self.assertEqual(errors.TooWide(64 ** 5000).width, 64 ** 5000)


if __name__ == "__main__":
    unittest.main()
