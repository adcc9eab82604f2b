"""Reading written forms: point 76, with points 10, 13, 15 and 75."""

import random

from metehouse.claims import AtMost, Below, Both, Either, Same
from metehouse.errors import BadText
from metehouse.forks import Fork
from metehouse.forms import Form
from metehouse.gauges import CoarseGauge, Gauge
from metehouse.grids import Grid, Well
from metehouse.instruments import Balance, LateGauge
from metehouse.ladders import Ladder
from metehouse.reading import read_claim, read_form, read_instrument, read_table
from metehouse.runs import Run
from metehouse.tables import Table
from tests.helping import Case
from tests.housing import some_claim, some_instrument
from tests.test_tables import some_table

A, B = Form.one("a"), Form.one("b")
MOST = 10 ** 40 - 1
READERS = (read_form, read_claim, read_table, read_instrument)


class ReadingCase(Case):
    def back(self, read, thing):
        """The thing is read back from its written form."""
        text = str(thing)
        found = read(text)
        self.assertIs(type(found), type(thing))
        self.assertTrue(found == thing)
        self.assertEqual(str(found), text)

    def bad(self, read, *texts):
        for text in texts:
            self.refused(BadText, read, text, has={"text": text})

    def mutations(self, text):
        """Texts that differ from this one in one place."""
        for at in range(len(text) + 1):
            for sign in " -+0(:;\n":
                yield text[:at] + sign + text[at:]
            yield text[:at] + text[at + 1:]
            for sign in "a0 A":
                yield text[:at] + sign + text[at + 1:]

    def strict(self, read, text):
        """Every text near this one is read back as it is, or refused."""
        for other in self.mutations(text):
            try:
                found = read(other)
            except BadText as error:
                self.assertEqual(error.text, other)
                continue
            self.assertEqual(str(found), other)


class TestForms(ReadingCase):
    def test_back(self):
        chance = random.Random(76)
        for _ in range(300):
            names = chance.sample(["a", "b", "k.1", "k.10", "k9", "z", "abcdefghijkl"], chance.randint(0, 7))
            terms = [(name, chance.choice([-12, -2, -1, 1, 2, 30, MOST, -MOST])) for name in names]
            self.back(read_form, Form(terms, chance.choice([0, 0, 1, -1, 7, -40, MOST, -MOST])))

    def test_examples(self):
        self.assertEqual(read_form("a - 2 b + 3"), A - 2 * B + 3)
        self.assertEqual(read_form("-a.1 - 1"), -Form.one("a.1") - 1)
        self.assertEqual((read_form("0"), read_form("-7")), (Form(), Form((), -7)))

    def test_faults(self):
        self.bad(
            read_form, "", " ", "a  + b", " a", "a ", "a\n", "\na", "a +\nb", "b - a", "b + a", "a + 0 b", "0 a", "1 a",
            "-1 a", "a + 1 b", "a + a", "a + b + a", "a - a", "007", "a + 07", "07 a", "-0", "+0", "a + 0", "a - 0", "+a",
            "- a", "a + -b", "a - -1", "a -1", "a+b", "a +", "a -", "-", "+", "2 + 3", "3 + a", "a + 3 + 4", "a + 3 4",
            "a b", "2 a b", "a 2", "2a", "A", "a.", ".a", "1a", "abcdefghijklm", "a * b", "a + b = 0", "a * 2", "1 2")

    def test_digits(self):
        self.assertEqual(read_form(str(MOST)).constant, MOST)
        self.assertEqual(read_form(f"-{MOST} a - {MOST}"), -MOST * A - MOST)
        long = str(MOST + 1)
        self.bad(read_form, long, "-" + long, "a + " + long, long + " a", "a - " + long + " b", "1" * 5000, "a + " + "9" * 9000)

    def test_near_texts(self):
        for text in ("a - 2 b + 3", "-a.1 - 10", "-7", "2 a"):
            self.strict(read_form, text)

    def test_many_terms(self):
        text = " + ".join(f"q{number:06d}" for number in range(20000))
        self.assertEqual(len(read_form(text)), 20000)
        self.bad(read_form, text + " + q000000", text + " +", "q1 - " + text)


class TestClaims(ReadingCase):
    def test_back(self):
        chance = random.Random(15)
        for _ in range(300):
            self.back(read_claim, some_claim(chance, ["a", "b", "c.1"], 4))

    def test_plain_claims(self):
        self.back(read_claim, AtMost(A - B, 3))
        self.back(read_claim, Below(Form()))
        self.back(read_claim, Same(Form((), 5)))
        for name in ("not", "both", "either"):
            self.back(read_claim, AtMost(Form.one(name)))
            self.back(read_claim, ~Same(Form.one(name) + 2))

    def test_without_parts(self):
        self.back(read_claim, Both())
        self.back(read_claim, Either())
        self.back(read_claim, Both(Either(), ~Both()))

    def test_faults(self):
        self.bad(
            read_claim, "", "a", "a <= 1", "a < 0 ", " a < 0", "a  < 0", "a <0", "a > 0", "a >= 0", "a == 0", "< 0", " < 0",
            "a = -0", "a = 00", "b - a < 0", "not", "not a < 0", "not ()", "not (a < 0", "not a < 0)", "not (a < 0) ",
            "not (a < 0) (b < 0)", "not  (a < 0)", "not(a < 0)", "not (a < 0)\n", "both ", "both ()", "both (a < 0)(b < 0)",
            "both (a < 0)  (b < 0)", "both (a < 0) b < 0", "both x (a < 0)", "both ((a < 0))", "(a < 0)", "both (both",
            "either (a < 0))", "either ((a < 0)", "either)", "either (", "neither", "Both", "both both", "not (b - a < 0)",
            "both (a < 0) (1 a < 0)", "a < 0 < 0", "a <= 0 <= 0", ")(", "both )a < 0(")

    def test_depth(self):
        for depth in range(1, 9):
            self.assertEqual(read_claim("not (" * (depth - 1) + "a < 0" + ")" * (depth - 1)).depth, depth)
            self.assertEqual(read_claim("both (" * (depth - 1) + "either" + ")" * (depth - 1)).depth, depth)
        for nested in (8, 9, 100, 40000):
            for word in ("not", "both", "either"):
                self.bad(read_claim, f"{word} (" * nested + "a < 0" + ")" * nested, f"{word} (" * nested + "both" + ")" * nested)
        self.bad(read_claim, "not (" * 40000, "(" * 199999, ")" * 199999, "both (a < 0)" + ")" * 60000)

    def test_width(self):
        for parts in (1, 64):
            self.assertEqual(read_claim("either" + " (a < 0)" * parts).width, parts)
        self.bad(read_claim, "either" + " (a < 0)" * 65, "both" + " (not (a = 0))" * 7, "not (both" + " (a < 0)" * 65 + ")")
        self.assertEqual(read_claim("both" + " (not (a = 0))" * 6).width, 64)
        self.assertEqual(read_claim("both" + " (a < 0)" * 20000).width, 1)
        self.bad(read_claim, "either" + " (a < 0)" * 20000, "both" + " (not (a = 0))" * 12000)

    def test_digits(self):
        self.back(read_claim, AtMost(MOST * A - MOST))
        self.bad(read_claim, f"a + {MOST + 1} < 0", f"not ({MOST + 1} a < 0)")

    def test_near_texts(self):
        for text in ("a - 2 b + 3 <= 0", "both (not (a = 0)) (-b < 0)", "either (both) (a < 0)"):
            self.strict(read_claim, text)


class TestTables(ReadingCase):
    def test_back(self):
        chance = random.Random(64)
        for _ in range(100):
            self.back(read_table, Table(*some_table(chance, chance.randint(1, 6))))
        for wrong in range(6):
            self.back(read_table, Table.race(wrong))

    def test_faults(self):
        self.bad(
            read_table, "", "1", "x", "1 0 1 missed", "1 0 1 missed 1 0 reached ", " 1 0 1 missed 1 0 reached",
            "1 1 0 reached 0 1 missed", "1 0 1 missed 1 0 reached 1 0 reached", "1 0 1 missed 1 0", "1 0 1 missed 1 0 great",
            "1 0 1 missed  1 0 reached", "01 0 1 missed 1 0 reached", "1 -0 1 missed 1 0 reached", "0 0 1 missed 1 0 reached",
            "13 0 1 missed 1 0 reached", "1 0 1 missed 1 0 reached 2 0 reached", "1 0 0 missed 0 1 missed 1 0 reached",
            "1 -1 1 missed 0 1 missed 1 0 reached", "2 0 1 missed 2 0 reached", "1 0 1 missed 1 0 reached\n",
            "1 0 1 missed 1 0 reached x", "1\n0 1 missed 1 0 reached", "1" * 41, "1 0 1 missed 1 0 " + "reached" * 9)

    def test_near_texts(self):
        self.strict(read_table, "2 0 1 missed 1 1 unsure 2 0 reached")


class TestInstruments(ReadingCase):
    KINDS = (
        Gauge("g", A - 2), Gauge("gauge", A, radius=MOST), CoarseGauge("c", B, step=5), CoarseGauge("c", B, step=5, radius=2),
        LateGauge("l", A), LateGauge("l", A, B, A, 2 * B - 1, radius=3), Balance("b", A, B), Balance("b", A, Form(), dead=4),
        Fork("f", A, -B), Fork("f", A, B, blur=MOST), Ladder("l", A, length=5), Ladder("l", A, length=MOST, foot=MOST),
        Well("w", Grid("g", 1, 1), 0, 0, A), Well("w", Grid("g", 12, 12), 11, 11, Form(), time=MOST),
        Well("w", Grid("grid", 3, 4, drift=[("power", 3), ("step", 24), ("cycle", 2)]), 2, 3, A - B, time=7),
        Run("r", A, length=5, table=Table.race(0)), Run("r", A - B, length=5, foot=3, table=Table.race(5), wrong=MOST))

    def test_back(self):
        for instrument in self.KINDS:
            self.back(read_instrument, instrument)
        chance = random.Random(75)
        for _ in range(300):
            self.back(read_instrument, some_instrument(chance, chance.choice(["a", "x", "abcdefgh"]), ["a", "b", "c.1"])[0])

    def test_read_ones_say_the_same(self):
        chance = random.Random(7)
        for _ in range(200):
            instrument, told = some_instrument(chance, "x", ["a", "b"])
            found = read_instrument(str(instrument))
            self.assertEqual(found.says(told), instrument.says(told))
            self.assertEqual((found.names(), found.tellings()), (instrument.names(), instrument.tellings()))
        well = read_instrument("well w g 2 3 1 2 5 power 2 : a")
        self.assertEqual(str(well.says(4)), "a + g.c2 + 25 g.d0 + g.r1 - 4 = 0")

    def test_faults(self):
        self.bad(
            read_instrument, "", "gauge", "gauge g", "gauge g 0", "gauge g 0 :", "gauge g 0 : ", "gauge g 0: a", "gauge g 0 :a",
            "gauge g : a", "gauge g 0 1 : a", "gauge g -1 : a", "gauge g 00 : a", "gauge g x : a", "gauge G 0 : a",
            "gauge abcdefghi 0 : a", "gauge  g 0 : a", "gauge g 0  : a", "gauge g 0 :  a", " gauge g 0 : a", "gauge g 0 : a ",
            "gauge g 0 : a ; b", "gauge g 0 : b - a", "gauge g 0 : a : a", "gauge g 0 : a\n", "Gauge g 0 : a", "dial g 0 : a",
            "coarse g 0 : a", "coarse g 0 0 : a", "coarse g -1 5 : a", "coarse g 0 5 : a ; b", "coarse g 0 5 1 : a",
            "late g 0 : ", "late g 0 : a ; a ; a ; a ; a", "late g -1 : a", "late g 0 : a ;", "late g 0 : a; b", "late g : a",
            "late g 0 : a ; ; b", "balance b 0 : a", "balance b 0 : a ; b ; a", "balance b -1 : a ; b", "balance b : a ; b",
            "fork f 0 : a", "fork f -1 : a ; b", "fork f 0 : a ; b ; a", "fork f 0 1 : a ; b", "ladder l 5 : a",
            "ladder l -1 0 : a", "ladder l 5 -1 : a", "ladder l 5 0 : a ; b", "ladder l 5 0 0 : a", "gauge g 0 " + str(MOST + 1),
            f"gauge g {MOST + 1} : a", f"ladder l {MOST + 1} 0 : a", f"gauge g 0 : a - {MOST + 1}")

    def test_faults_of_wells(self):
        self.back(read_instrument, read_instrument("well w g 2 2 1 1 0 step 3 : a"))
        self.bad(
            read_instrument, "well w g 2 2 1 1 : a", "well w g 2 2 1 1 0 : a ; b", "well w g 2 2 2 1 0 : a",
            "well w g 2 2 1 -1 0 : a", "well w g 2 2 1 1 -1 : a", "well w g 0 2 0 0 0 : a", "well w g 2 13 1 1 0 : a",
            "well w G 2 2 1 1 0 : a", "well W g 2 2 1 1 0 : a", "well w g 2 2 1 1 0 step : a", "well w g 2 2 1 1 0 step 0 : a",
            "well w g 2 2 1 1 0 step 25 : a", "well w g 2 2 1 1 0 jump 2 : a", "well w g 2 2 1 1 0 step 03 : a",
            "well w g 2 2 1 1 0 step 1 step 1 step 1 step 1 : a", "well w g 2 2 1 1 0 step x : a", "well w : a", "well w g : a",
            "well w g 2 2 1 1 0 3 step : a", "well w g 2 2 1 1 00 : a", "well w g 2 2 1 1 0  step 3 : a", "well w g 2 2 1 1 0")

    def test_faults_of_runs(self):
        table = "1 0 1 missed 1 0 reached"
        self.back(read_instrument, read_instrument(f"run r 5 0 0 : a ; {table}"))
        self.bad(
            read_instrument, f"run r 5 0 : a ; {table}", f"run r 5 0 0 0 : a ; {table}", f"run r 5 0 -1 : a ; {table}",
            f"run r -5 0 0 : a ; {table}", f"run r 5 0 0 : {table} ; a", "run r 5 0 0 : a", f"run r 5 0 0 : a ; a ; {table}",
            "run r 5 0 0 : a ; 1 1 0 reached 0 1 missed", "run r 5 0 0 : a ; 1 0 1 missed", "run r 5 0 0 : a ; ",
            f"run r 5 0 0 : a ; {table} ", f"run r 5 0 0 : a ;  {table}", f"run r 5 0 00 : a ; {table}")

    def test_near_texts(self):
        for instrument in self.KINDS:
            if len(str(instrument)) < 60:
                self.strict(read_instrument, str(instrument))


class TestAllReaders(ReadingCase):
    def test_no_other_error(self):
        chance = random.Random(1)
        words = ["gauge", "well", "run", "late", "g", "a", "0", "1", "-1", ":", ";", "(", ")", "both", "not", "either", "<", "=",
                 "<=", "+", "-", "", "missed", "reached", "\n", "a.", "99999", str(MOST + 1)]
        for _ in range(3000):
            text = " ".join(chance.choice(words) for _ in range(chance.randint(1, 12)))
            for read in READERS:
                try:
                    self.assertEqual(str(read(text)), text)
                except BadText as error:
                    self.assertEqual(vars(error), {"text": text})

    def test_a_reader_reads_its_own_kind_alone(self):
        texts = ("a - b", "a - b < 0", "1 0 1 missed 1 0 reached", "gauge g 0 : a")
        for own, read in enumerate(READERS):
            for other, text in enumerate(texts):
                if own == other:
                    self.assertEqual(str(read(text)), text)
                else:
                    self.bad(read, text)
