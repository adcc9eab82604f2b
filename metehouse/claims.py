"""Claims: what is said about a world, as rows that hold together, in one way or another."""

from metehouse.errors import TooDeep, TooWide
from metehouse.forms import all_names, need_levels


def check_size(depth, width):
    """Raise TooDeep or TooWide for a claim of this depth with this number of ways."""
    if depth > Claim.MOST_DEPTH:
        raise TooDeep(depth)
    if width > Claim.MOST_WAYS:
        raise TooWide(width)


def depth_over(parts):
    """The depth of a compound claim with these parts."""
    return 1 + max([part.depth for part in parts], default=0)


def product_of(numbers):
    """The product of a list of integers, 1 if it is empty."""
    product = 1
    for number in numbers:
        product = product * number
    return product


def joined(lists):
    """A way for each choice of one way of each list; the last choice changes fastest."""
    found = [[]]
    for ways in lists:
        found = [way + more for way in found for more in ways]
    return found


def chained(lists):
    """All ways of the lists, one list after another."""
    return [way for ways in lists for way in ways]


class Claim:
    """The base class of all claims; a claim never changes.

    Each kind of claim has, besides what the document names, `against()`, the ways in
    which it fails, `failing`, their number, `plain_forms()`, the forms of its plain parts
    as they are compared with 0, `true_in(world)` and `written()`.
    """

    MOST_DEPTH = 8
    MOST_WAYS = 64

    def ways(self):
        """The list of the ways in which the claim holds."""
        raise NotImplementedError("each kind of claim has its own ways")

    def names(self):
        """The quantities of all plain parts, ascending."""
        return all_names(self.plain_forms())

    def put(self, name, form):
        """The claim in which a form stands in the place of the quantity."""
        raise NotImplementedError("each kind of claim puts forms into its own parts")

    def __call__(self, world):
        need_levels(self.names(), world)
        return self.true_in(world)

    def __invert__(self):
        return Not(self)

    def __and__(self, other):
        return Both(self, other)

    def __or__(self, other):
        return Either(self, other)

    def __eq__(self, other):
        return isinstance(other, Claim) and str(self) == str(other)

    def __str__(self):
        return str(self.written())


class Plain(Claim):
    """What the plain claims share: one form, `excess`, that is compared with 0."""

    def __init__(self, form, bound=0):
        self.excess = form - bound
        self.width = 1
        self.depth = 1
        self.failing = 1

    def plain_forms(self):
        """The form that is compared with 0, as a list."""
        return [self.excess]


class AtMost(Plain):
    """The value of the form is at most the bound."""

    def ways(self):
        """One way: the form minus the bound is at most 0."""
        return [[(self.excess, "<=")]]

    def against(self):
        """One way: the bound is less than the form."""
        return [[(-self.excess, "<")]]

    def put(self, name, form):
        """The claim in which a form stands in the place of the quantity."""
        return AtMost(self.excess.put(name, form))

    def true_in(self, world):
        """True if the claim holds in the world."""
        return self.excess(world)[0] <= 0

    def written(self):
        """The written form."""
        return f"{self.excess} <= 0"


class Below(Plain):
    """The value of the form is less than the bound."""

    def ways(self):
        """One way: the form minus the bound is less than 0."""
        return [[(self.excess, "<")]]

    def against(self):
        """One way: the bound is at most the form."""
        return [[(-self.excess, "<=")]]

    def put(self, name, form):
        """The claim in which a form stands in the place of the quantity."""
        return Below(self.excess.put(name, form))

    def true_in(self, world):
        """True if the claim holds in the world."""
        return self.excess(world)[0] < 0

    def written(self):
        """The written form."""
        return f"{self.excess} < 0"


class Same(Plain):
    """The value of the form equals the bound."""

    def __init__(self, form, bound=0):
        super().__init__(form, bound)
        self.failing = 2

    def ways(self):
        """One way: the form minus the bound is 0."""
        return [[(self.excess, "=")]]

    def against(self):
        """Two ways: the form is less than the bound, or the bound is less than the form."""
        return [[(self.excess, "<")], [(-self.excess, "<")]]

    def put(self, name, form):
        """The claim in which a form stands in the place of the quantity."""
        return Same(self.excess.put(name, form))

    def true_in(self, world):
        """True if the claim holds in the world."""
        return self.excess(world)[0] == 0

    def written(self):
        """The written form."""
        return f"{self.excess} = 0"


class Compound(Claim):
    """What the compound claims share: the tuple of their parts."""

    WORD = ""

    def plain_forms(self):
        """The forms of all plain parts, in order."""
        forms = []
        for part in self.parts:
            forms.extend(part.plain_forms())
        return forms

    def parts_put(self, name, form):
        """The list of the parts in which a form stands in the place of the quantity."""
        return [part.put(name, form) for part in self.parts]

    def written(self):
        """The written form."""
        words = [f"({part.written()})" for part in self.parts]
        return " ".join([self.WORD, *words])


class Not(Compound):
    """The claim fails."""

    WORD = "not"

    def __init__(self, claim):
        self.parts = (claim,)
        self.depth = depth_over(self.parts)
        self.width = claim.failing
        self.failing = claim.width
        check_size(self.depth, self.width)

    def ways(self):
        """The ways in which the part fails."""
        return self.parts[0].against()

    def against(self):
        """The ways in which the part holds."""
        return self.parts[0].ways()

    def put(self, name, form):
        """The claim in which a form stands in the place of the quantity."""
        return Not(self.parts[0].put(name, form))

    def true_in(self, world):
        """True if the claim holds in the world."""
        return not self.parts[0].true_in(world)


class Both(Compound):
    """All parts hold."""

    WORD = "both"

    def __init__(self, *claims):
        self.parts = claims
        self.depth = depth_over(claims)
        self.width = product_of([part.width for part in claims])
        self.failing = sum([part.failing for part in claims])
        check_size(self.depth, self.width)

    def ways(self):
        """A way for each choice of one way of each part."""
        # Parts may have many ways although another one has none; then nothing is listed.
        if self.width == 0:
            return []
        return joined([part.ways() for part in self.parts])

    def against(self):
        """The ways in which one of the parts fails, part by part."""
        return chained([part.against() for part in self.parts])

    def put(self, name, form):
        """The claim in which a form stands in the place of the quantity."""
        parts = self.parts_put(name, form)
        return Both(*parts)

    def true_in(self, world):
        """True if the claim holds in the world."""
        return all([part.true_in(world) for part in self.parts])


class Either(Compound):
    """At least one part holds."""

    WORD = "either"

    def __init__(self, *claims):
        self.parts = claims
        self.depth = depth_over(claims)
        self.width = sum([part.width for part in claims])
        self.failing = product_of([part.failing for part in claims])
        check_size(self.depth, self.width)

    def ways(self):
        """The ways of the parts, part by part."""
        return chained([part.ways() for part in self.parts])

    def against(self):
        """A way for each choice of one way in which each part fails."""
        if self.failing == 0:
            return []
        return joined([part.against() for part in self.parts])

    def put(self, name, form):
        """The claim in which a form stands in the place of the quantity."""
        parts = self.parts_put(name, form)
        return Either(*parts)

    def true_in(self, world):
        """True if the claim holds in the world."""
        return any([part.true_in(world) for part in self.parts])


def within(form, low, high):
    """The value of the form lies between two integers, ends included."""
    return Both(AtMost(low - form), AtMost(form - high))
