"""The errors of the program, one class for each kind of failure."""


class MeteError(ValueError):
    """The base class of all errors of the program."""


class BadName(MeteError):
    """A name that has not the form that its place asks for."""

    def __init__(self, name):
        super().__init__(f"{name!r} is not a name of the kind that is asked for")
        self.name = name


class NoQuantity(MeteError):
    """A world without the level of a quantity that is needed."""

    def __init__(self, name):
        super().__init__(f"there is no quantity {name!r}")
        self.name = name


class Taken(MeteError):
    """A name that stands there already."""

    def __init__(self, name):
        super().__init__(f"{name!r} is taken already")
        self.name = name


class Unlike(MeteError):
    """A gauge that watches another form than the others."""

    def __init__(self, name):
        super().__init__(f"{name!r} watches another form")
        self.name = name


class UnknownInstrument(MeteError):
    """A name that no instrument has."""

    def __init__(self, name):
        super().__init__(f"there is no instrument {name!r}")
        self.name = name


class UnknownBudget(MeteError):
    """A name that no budget has."""

    def __init__(self, name):
        super().__init__(f"there is no budget {name!r}")
        self.name = name


class UnknownSection(MeteError):
    """A name that no section has."""

    def __init__(self, name):
        super().__init__(f"there is no section {name!r}")
        self.name = name


class NotRun(MeteError):
    """An instrument that is no run."""

    def __init__(self, name):
        super().__init__(f"{name!r} is no run")
        self.name = name


class NoTellings(MeteError):
    """An instrument whose list of tellings is empty."""

    def __init__(self, name):
        super().__init__(f"{name!r} has no list of tellings")
        self.name = name


class BadNumber(MeteError):
    """A number that is out of its range."""

    def __init__(self, number):
        super().__init__(f"{number!r} is out of range")
        self.number = number


class NotPossible(MeteError):
    """A value that the level cannot have."""

    def __init__(self, number):
        super().__init__(f"the level cannot be {number!r}")
        self.number = number


class BadLimit(MeteError):
    """A limit that is out of its range."""

    def __init__(self, limit):
        super().__init__(f"{limit!r} is no such limit")
        self.limit = limit


class Full(MeteError):
    """A deed more than can be in force."""

    def __init__(self, limit):
        super().__init__(f"no more than {limit!r} deeds can be in force")
        self.limit = limit


class TooWide(MeteError):
    """A claim with too many ways."""

    def __init__(self, width):
        super().__init__("the claim has too many ways")
        self.width = width


class TooDeep(MeteError):
    """A claim that nests too deep."""

    def __init__(self, depth):
        super().__init__(f"the claim nests {depth!r} deep")
        self.depth = depth


class TooMany(MeteError):
    """More things than there may be."""

    def __init__(self, what, most):
        super().__init__(f"there are more than {most!r} {what}")
        self.what = what
        self.most = most


class BadStretch(MeteError):
    """A stretch without a value, or with an end that it cannot have."""

    def __init__(self, stretch):
        super().__init__("the stretch has no value, or an end that is none")
        self.stretch = stretch


class NoValue(MeteError):
    """A set of values that has none."""

    def __init__(self):
        super().__init__("there is no value")


class BadReading(MeteError):
    """A telling that an instrument does not make."""

    def __init__(self, name, told):
        super().__init__(f"{name!r} does not tell {told!r}")
        self.name = name
        self.told = told


class NoReading(MeteError):
    """A reading that an instrument does not have."""

    def __init__(self, name, index):
        super().__init__(f"{name!r} has no reading {index!r}")
        self.name = name
        self.index = index


class NoTick(MeteError):
    """A tick that was not recorded."""

    def __init__(self, tick):
        super().__init__(f"there is no tick {tick!r}")
        self.tick = tick


class NoStory(MeteError):
    """Tellings that leave no story."""

    def __init__(self, tick):
        super().__init__(f"no story reaches tick {tick!r}")
        self.tick = tick


class BadShape(MeteError):
    """What is no shape of a drift."""

    def __init__(self, shape):
        super().__init__(f"{shape!r} is no shape")
        self.shape = shape


class NoPlace(MeteError):
    """A place that a grid does not have."""

    def __init__(self, row, column):
        super().__init__(f"there is no place in row {row!r} and column {column!r}")
        self.row = row
        self.column = column


class NoWell(MeteError):
    """A well that a plate does not have."""

    def __init__(self, index):
        super().__init__(f"there is no well {index!r}")
        self.index = index


class NotTold(MeteError):
    """A target that the lines do not tell."""

    def __init__(self, moves):
        super().__init__("the lines do not tell the target")
        self.moves = moves


class Clash(MeteError):
    """Readings that a ring shows to be wrong."""

    def __init__(self, ring):
        super().__init__("a ring clashes with the readings")
        self.ring = ring


class NoBlock(MeteError):
    """A block that the strikes do not have."""

    def __init__(self, index):
        super().__init__(f"there is no block {index!r}")
        self.index = index


class NoWalk(MeteError):
    """Two quantities that no strikes join."""

    def __init__(self, first, second):
        super().__init__(f"no walk leads from {first!r} to {second!r}")
        self.first = first
        self.second = second


class BadSign(MeteError):
    """What is no sign of a limit."""

    def __init__(self, sign):
        super().__init__(f"{sign!r} is no sign of a limit")
        self.sign = sign


class NoNet(MeteError):
    """A net that no world satisfies."""

    def __init__(self, ring):
        super().__init__("a ring shows that no world satisfies the net")
        self.ring = ring


class BadTable(MeteError):
    """A table with a fault."""

    def __init__(self, fault):
        super().__init__(f"the table has a fault: {fault}")
        self.fault = fault


class BadTries(MeteError):
    """Tries that a run cannot make."""

    def __init__(self, tries):
        super().__init__(f"{tries!r} are no tries of the table")
        self.tries = tries


class NoFact(MeteError):
    """A fact that a house does not have."""

    def __init__(self, index):
        super().__init__(f"there is no fact {index!r}")
        self.index = index


class NoWorld(MeteError):
    """A house that no world fits."""

    def __init__(self, tree):
        super().__init__("no world fits the house")
        self.tree = tree


class NotSure(MeteError):
    """A claim that is not sure."""

    def __init__(self, word):
        super().__init__(f"the claim is not sure, but {word}")
        self.word = word


class BadDeed(MeteError):
    """A word that names no deed."""

    def __init__(self, word):
        super().__init__(f"{word!r} is no deed")
        self.word = word


class RunRefused(MeteError):
    """A run of deeds of which one was refused."""

    def __init__(self, index):
        super().__init__(f"the deed {index!r} was refused")
        self.index = index


class BadText(MeteError):
    """A text that is no written form."""

    def __init__(self, text):
        super().__init__(f"{text!r} is no written form")
        self.text = text


class BadLine(MeteError):
    """A line of a written house that is wrong."""

    def __init__(self, line):
        super().__init__(f"line {line!r} is wrong")
        self.line = line


class NothingToUndo(MeteError):
    """No deed in force that could be taken back."""

    def __init__(self):
        super().__init__("there is nothing to undo")


class NothingToRedo(MeteError):
    """No undone deed that could be done again."""

    def __init__(self):
        super().__init__("there is nothing to redo")
