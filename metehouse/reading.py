"""Reading: objects from their written forms.

The functions that end in `_of` return None for what they cannot read, and let more texts
pass than are written so. The four that the document names compare what they got with
the text, so that each object has one text only.
"""

from metehouse.claims import AtMost, Below, Both, Claim, Either, Not, Same
from metehouse.errors import BadText, MeteError
from metehouse.forks import Fork
from metehouse.forms import Form, is_quantity
from metehouse.gauges import CoarseGauge, Gauge
from metehouse.grids import Grid, Well
from metehouse.instruments import Balance, LateGauge
from metehouse.ladders import Ladder
from metehouse.runs import Run
from metehouse.tables import Table

MOST_DIGITS = 40
DIGITS = "0123456789"


def number_of(text):
    """The integer that is written so."""
    digits = text[1:] if text.startswith("-") else text
    if not 1 <= len(digits) <= MOST_DIGITS or not all([sign in DIGITS for sign in digits]):
        return None
    number = int(text)
    return number if str(number) == text else None


def part_of(words, at):
    """The term or the constant that begins at a word, a pair (name or None, size), and the place behind it."""
    if is_quantity(words[at]):
        return (words[at], 1), at + 1
    size = number_of(words[at])
    if size is None:
        return None, at
    if at + 1 < len(words) and is_quantity(words[at + 1]):
        return (words[at + 1], size), at + 2
    return (None, size), at + 1


def form_of(text):
    """The form that is written so."""
    negative = text.startswith("-")
    words = (text[1:] if negative else text).split(" ")
    terms, constant, at = [], 0, 0
    while True:
        part, at = part_of(words, at)
        if part is None:
            return None
        name, size = part
        if negative:
            size = -size
        if name is None:
            constant = constant + size
        else:
            terms.append((name, size))
        if at == len(words):
            return Form(terms, constant)
        if at + 1 == len(words) or words[at] not in ("+", "-"):
            return None
        negative = words[at] == "-"
        at += 1


def forms_of(texts):
    """The forms that are written so, in order."""
    forms = [form_of(text) for text in texts]
    return None if any([form is None for form in forms]) else forms


def plain_of(text):
    """The plain claim that is written so."""
    form = form_of(text.rpartition(" ")[0].rpartition(" ")[0])
    if form is None:
        return None
    if text.endswith(" <= 0"):
        return AtMost(form)
    if text.endswith(" < 0"):
        return Below(form)
    return Same(form) if text.endswith(" = 0") else None


def in_brackets(text):
    """The texts that stand in brackets, those within other brackets left out."""
    found = []
    deep, start = 0, 0
    for at, sign in enumerate(text):
        if sign == "(":
            if deep == 0:
                start = at + 1
            deep += 1
        elif sign == ")":
            deep -= 1
            if deep == 0:
                found.append(text[start:at])
    return found


def claim_of(text, depth):
    """The claim that is written so, at this depth of the whole claim."""
    if depth > Claim.MOST_DEPTH:
        return None
    word = text.partition(" ")[0]
    if word not in ("not", "both", "either") or text.endswith(" 0"):
        return plain_of(text)
    claims = [claim_of(part, depth + 1) for part in in_brackets(text)]
    if any([claim is None for claim in claims]):
        return None
    if word == "both":
        return Both(*claims)
    if word == "either":
        return Either(*claims)
    return Not(claims[0]) if len(claims) == 1 else None


def table_of(text):
    """The table that is written so."""
    words = text.split(" ")
    limit = number_of(words[0])
    ends = {}
    for at in range(1, len(words) - 2, 3):
        reached, missed = number_of(words[at]), number_of(words[at + 1])
        if reached is None or missed is None:
            return None
        ends[(reached, missed)] = words[at + 2]
    return None if limit is None else Table(limit, ends)


def drift_of(words):
    """The shapes that are written so, one behind another."""
    return [(words[at], number_of(words[at + 1])) for at in range(0, len(words) - 1, 2)]


def well_of(words, texts):
    """The well with these words before the colon and these texts behind it."""
    numbers = [number_of(word) for word in words[3:8]]
    forms = forms_of(texts)
    if forms is None or len(forms) != 1 or len(numbers) != 5 or any([number is None for number in numbers]):
        return None
    rows, columns, row, column, time = numbers
    grid = Grid(words[2], rows, columns, drift=drift_of(words[8:]))
    return Well(words[1], grid, row, column, forms[0], time=time)


def run_of(name, numbers, texts):
    """The run with these numbers before the colon and these texts behind it."""
    if len(numbers) != 3 or len(texts) != 2:
        return None
    form, table = form_of(texts[0]), table_of(texts[1])
    if form is None or table is None:
        return None
    return Run(name, form, length=numbers[0], foot=numbers[1], table=table, wrong=numbers[2])


def simple_of(kind, name, numbers, forms):
    """The instrument of a kind that has nothing but numbers and forms."""
    size = (len(numbers), len(forms))
    if kind == "gauge" and size == (1, 1):
        return Gauge(name, forms[0], radius=numbers[0])
    if kind == "coarse" and size == (2, 1):
        return CoarseGauge(name, forms[0], radius=numbers[0], step=numbers[1])
    if kind == "late" and len(numbers) == 1:
        radius = numbers[0]
        return LateGauge(name, *forms, radius=radius)
    if kind == "balance" and size == (1, 2):
        return Balance(name, forms[0], forms[1], dead=numbers[0])
    if kind == "fork" and size == (1, 2):
        return Fork(name, forms[0], forms[1], blur=numbers[0])
    if kind == "ladder" and size == (2, 1):
        return Ladder(name, forms[0], length=numbers[0], foot=numbers[1])
    return None


def instrument_of(text):
    """The instrument that is written so."""
    head, _, body = text.partition(" : ")
    words, texts = head.split(" "), body.split(" ; ")
    if len(words) < 2:
        return None
    if words[0] == "well":
        return well_of(words, texts)
    numbers = [number_of(word) for word in words[2:]]
    if any([number is None for number in numbers]):
        return None
    if words[0] == "run":
        return run_of(words[1], numbers, texts)
    forms = forms_of(texts)
    return None if forms is None else simple_of(words[0], words[1], numbers, forms)


def need_same(found, text):
    """What was found, if it is there and its written form is the text; otherwise raise BadText."""
    if found is None or str(found) != text:
        raise BadText(text)
    return found


def read_form(text):
    """The form whose written form is the text."""
    return need_same(form_of(text), text)


def read_claim(text):
    """The claim whose written form is the text."""
    try:
        found = claim_of(text, 1)
    except MeteError as error:
        raise BadText(text) from error
    return need_same(found, text)


def read_table(text):
    """The table whose written form is the text."""
    try:
        found = table_of(text)
    except MeteError as error:
        raise BadText(text) from error
    return need_same(found, text)


def read_instrument(text):
    """The instrument whose written form is the text."""
    try:
        found = instrument_of(text)
    except MeteError as error:
        raise BadText(text) from error
    return need_same(found, text)
