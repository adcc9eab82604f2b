"""Words, quantities, and forms: sums of quantities with integer weights and a constant."""

from metehouse.errors import BadName, NoQuantity
from metehouse.exact import plus, times

LETTERS = "abcdefghijklmnopqrstuvwxyz"
QUANTITY_SIGNS = "abcdefghijklmnopqrstuvwxyz.0123456789"
LONGEST_WORD = 8
LONGEST_QUANTITY = 12


def is_word(text):
    """True if the text is a word: 1 to 8 characters from a to z."""
    if not isinstance(text, str) or not 1 <= len(text) <= LONGEST_WORD:
        return False
    return all([sign in LETTERS for sign in text])


def is_quantity(text):
    """True if the text is a quantity: 1 to 12 letters, digits and dots."""
    if not isinstance(text, str) or not 1 <= len(text) <= LONGEST_QUANTITY:
        return False
    if text[0] not in LETTERS or text[-1] == ".":
        return False
    return all([sign in QUANTITY_SIGNS for sign in text])


def all_names(forms):
    """The quantities of several forms, ascending, each once."""
    found = {}
    for form in forms:
        for name, _ in form.terms:
            found[name] = True
    return tuple(sorted(list(found)))


def need_levels(names, world):
    """Raise NoQuantity for the first of the names that the world does not have."""
    for name in names:
        if name not in world:
            raise NoQuantity(name)


def added_terms(terms):
    """The pairs of each quantity once, ascending, without those whose weights cancel."""
    sums = {}
    for name, weight in terms:
        if not is_quantity(name):
            raise BadName(name)
        sums[name] = sums.get(name, 0) + weight
    return tuple([(name, sums[name]) for name in sorted(list(sums)) if sums[name] != 0])


def weight_of(terms, name):
    """The weight of a quantity, 0 if the terms do not have it."""
    for found, weight in terms:
        if found == name:
            return weight
    return 0


def write_term(size, name):
    """A size and its quantity, the size left out if it is 1."""
    return name if size == 1 else f"{size} {name}"


def write_form(terms, constant):
    """The written form of a form."""
    parts = [(weight, write_term(abs(weight), name)) for name, weight in terms]
    if constant != 0 or len(parts) == 0:
        parts.append((constant, str(abs(constant))))
    weight, text = parts[0]
    words = [f"-{text}" if weight < 0 else text]
    for weight, text in parts[1:]:
        words.append("-" if weight < 0 else "+")
        words.append(text)
    return " ".join(words)


class Form:
    """A sum of quantities with integer weights and an integer constant; it never changes."""

    def __init__(self, terms=(), constant=0):
        self.terms = added_terms(terms)
        self.constant = constant

    @staticmethod
    def one(name):
        """The quantity itself."""
        return Form([(name, 1)])

    @staticmethod
    def gap(first, second):
        """The first quantity minus the second one."""
        return Form([(first, 1), (second, -1)])

    def names(self):
        """The quantities of the form, ascending."""
        return tuple([name for name, _ in self.terms])

    def put(self, name, form):
        """The form in which a form stands in the place of the quantity."""
        rest = [(found, weight) for found, weight in self.terms if found != name]
        return Form(rest, self.constant) + form * weight_of(self.terms, name)

    def __call__(self, world):
        need_levels(self.names(), world)
        total = (self.constant, 1)
        for name, weight in self.terms:
            total = plus(total, times((weight, 1), world[name]))
        return total

    def __add__(self, other):
        if isinstance(other, int):
            return Form(self.terms, self.constant + other)
        if not isinstance(other, Form):
            return NotImplemented
        return Form(self.terms + other.terms, self.constant + other.constant)

    def __radd__(self, other):
        return self + other

    def __sub__(self, other):
        return self + other * -1

    def __rsub__(self, other):
        return self * -1 + other

    def __neg__(self):
        return self * -1

    def __mul__(self, other):
        if not isinstance(other, int):
            return NotImplemented
        return Form([(name, weight * other) for name, weight in self.terms], self.constant * other)

    def __rmul__(self, other):
        return self * other

    def __eq__(self, other):
        return isinstance(other, Form) and self.terms == other.terms and self.constant == other.constant

    def __contains__(self, name):
        return weight_of(self.terms, name) != 0

    def __getitem__(self, name):
        return weight_of(self.terms, name)

    def __iter__(self):
        return iter(self.terms)

    def __len__(self):
        return len(self.terms)

    def __str__(self):
        return str(write_form(self.terms, self.constant))


def make_form(*constants, **weights):
    """The form with the keywords as weights and the sum of the integers as constant."""
    return Form([(name, weight) for name, weight in weights.items()], sum(constants))
