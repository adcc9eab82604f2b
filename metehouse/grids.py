"""Grids: plates whose rows, columns and times have unknown effects, and the wells on them."""

from metehouse.claims import Same
from metehouse.errors import BadName, BadNumber, BadReading, BadShape, NoPlace, TooMany
from metehouse.forms import Form, is_word
from metehouse.instruments import Instrument, is_whole

MOST_LINES = 12
MOST_SHAPES = 3
# For each word of a shape the least and the greatest number that may stand behind it.
SHAPES = {"power": (1, 3), "step": (1, 24), "cycle": (2, 12)}


def is_shape(shape):
    """True if this is a pair of a word of a shape and a number that it may have."""
    if not isinstance(shape, tuple) or len(shape) != 2:
        return False
    word, number = shape
    if not isinstance(word, str) or word not in SHAPES or not is_whole(number):
        return False
    low, high = SHAPES[word]
    return low <= number <= high


def shape_value(shape, time):
    """The value of a shape at a time."""
    word, number = shape
    if word == "step":
        return 1 if time >= number else 0
    if word == "cycle":
        return time % number
    value = 1
    for _ in range(number):
        value = value * time
    return value


class Grid:
    """A plate with an effect for each row, each column and each shape of its drift."""

    def __init__(self, name, rows, columns, *, drift=()):
        if not is_word(name):
            raise BadName(name)
        for number in (rows, columns):
            if not 1 <= number <= MOST_LINES:
                raise BadNumber(number)
        for shape in drift:
            if not is_shape(shape):
                raise BadShape(shape)
        if len(drift) > MOST_SHAPES:
            raise TooMany("shapes", MOST_SHAPES)
        self.name = name
        self.rows = rows
        self.columns = columns
        self.drift = tuple(drift)

    def effects(self):
        """The effects: of the rows, of the columns, and of the shapes."""
        rows = [f"{self.name}.r{row}" for row in range(self.rows)]
        columns = [f"{self.name}.c{column}" for column in range(self.columns)]
        return rows + columns + [f"{self.name}.d{index}" for index in range(len(self.drift))]

    def need_place(self, row, column):
        """Raise NoPlace if there is no such place."""
        if not 0 <= row < self.rows or not 0 <= column < self.columns:
            raise NoPlace(row, column)

    def total(self, row, column, form, time=0):
        """The form plus the effects at a place and a time."""
        self.need_place(row, column)
        terms = [(f"{self.name}.r{row}", 1), (f"{self.name}.c{column}", 1)]
        for index, shape in enumerate(self.drift):
            terms.append((f"{self.name}.d{index}", shape_value(shape, time)))
        return form + Form(terms)

    def __eq__(self, other):
        if not isinstance(other, Grid):
            return False
        return (self.name, self.rows, self.columns, self.drift) == (other.name, other.rows, other.columns, other.drift)


class Well(Instrument):
    """It reads the total of a place of a grid at a time."""

    def __init__(self, name, grid, row, column, form, *, time=0):
        super().__init__(name)
        grid.need_place(row, column)
        if time < 0:
            raise BadNumber(time)
        self.grid = grid
        self.row = row
        self.column = column
        self.form = form
        self.time = time

    def watched(self):
        """The total alone."""
        return [self.grid.total(self.row, self.column, self.form, self.time)]

    def says(self, told):
        """The total equals the number."""
        if not is_whole(told):
            raise BadReading(self.name, told)
        return Same(self.watched()[0], told)

    def written(self):
        """The written form."""
        grid = self.grid
        words = ["well", self.name, grid.name, str(grid.rows), str(grid.columns)]
        words.extend([str(self.row), str(self.column), str(self.time)])
        for word, number in grid.drift:
            words.extend([word, str(number)])
        return " ".join([*words, ":", str(self.form)])
