"""What the interface lists exists as it is written: in its module, with its arguments, in its class."""

import importlib
import inspect
import unittest

from metehouse.claims import Claim
from metehouse.house import House
from metehouse.spans import MOST_PIECES

FUNCTIONS = {
    "exact": "common(*numbers) ratio(top,bottom=1) compare(first,second) plus(first,second) times(first,second)",
    "forms": "is_word(text) is_quantity(text) make_form(*constants,**weights)",
    "claims": "within(form,low,high)",
    "linear": "holds(rows,world) closes(rows,weights) settle(rows) greatest(rows,form)",
    "pieces": "shared(lots,most)",
    "ranks": "ranked(forms,place,index) worst_miss(radii,place,liars)",
    "grids": "shape_value(shape,time)",
    "cancelling": "cancel(lines,target) rings(lines) rank(lines) steady(lines,target)",
    "plates": "clash(plate,readings) measure(plate,readings,target)",
    "spoilt": "spoilt(plate,readings,*,most=1)",
    "islands": "islands(plate,form)",
    "controls": "fewest(plate,places,form,*targets)",
    "tunings": "tunings(strikes) count_tunings(strikes) turned(strikes,rises,index) "
               "possible_beats(strikes,first,second)",
    "ladders": "reach(length,foot=0) farthest(length,height)",
    "misreads": "is_blame(net,trials,blame) fewest_misread(net,trials) find_blames(net,trials) "
                "find_suspects(net,trials) best_world(net,trials) heights(net,trials,name,most)",
    "chords": "between(f,g,h) highest(f,*others) as_often(f,g,h,k) more_often(f,g,h,k)",
    "races": "quickest(wrong,limit)",
    "rehearsals": "attempt(house,act)",
    "reading": "read_form(text) read_claim(text) read_table(text) read_instrument(text)",
    "writing": "write_house(house) read_house(text) replay(lines) roll(house)",
    "cases": "closed(house,*given) find_world(house,*given) fits(house,world) liars(house,world)",
    "checking": "checks(house,tree,*given)",
    "judging": "judge(house,claim) word(house,claim) escapes(house,other) differ(first,second)",
    "spans": "span(house,form,*given) rank_span(house,place,target,*forms) signings(house,*forms)",
    "lies": "least_liars(house,budget) honesty(house) suspects(house,budget,*,most=2)",
    "grounds": "ground(house,claim) check_ground(house,claim,ground) needed(house,claim)",
    "boards": "board(house,slips) check_lot(house,slips,lot) beyond(house,slips) lend(house,claim,source,target)",
    "plans": "plan(house,claim,*names)",
    "stopping": "stop(house,name,tries='') endings(house,name)",
}
CLASSES = {
    "forms": ["Form(terms=(),constant=0)"],
    "claims": ["AtMost(form,bound=0)", "Below(form,bound=0)", "Same(form,bound=0)", "Not(claim)", "Both(*claims)",
               "Either(*claims)"],
    "pieces": ["Pieces(*stretches)"],
    "instruments": ["LateGauge(name,*forms,radius=0)", "Balance(name,left,right,*,dead=0)"],
    "gauges": ["Gauge(name,form,*,radius=0)", "CoarseGauge(name,form,*,step,radius=0)"],
    "racks": ["Rack(*gauges)"],
    "tracks": ["Track(word,start,*,pace=0,most=0)"],
    "grids": ["Grid(name,rows,columns,*,drift=())", "Well(name,grid,row,column,form,*,time=0)"],
    "plates": ["Plate(grid,spots,*,times=None)"],
    "forks": ["Fork(name,first,second,*,blur=0)"],
    "strikes": ["Strikes(*rows)"],
    "ladders": ["Ladder(name,form,*,length,foot=0)"],
    "nets": ["Net(limits=())"],
    "closures": ["Closure(net)"],
    "tables": ["Table(limit,ends)"],
    "house": ["House(*,limit=100)"],
    "runs": ["Run(name,form,*,length,foot=0,table,wrong=0)"],
    "rehearsals": ["Rehearsal(house)"],
    "grounds": ["Ground(things,tree,worlds)"],
    "boards": ["Lot(known,steps,doubts)"],
}
METHODS = {
    "forms.Form": "names() put(name,form)",
    "claims.Claim": "ways() names() put(name,form)",
    "pieces.Pieces": "claim(form) inside(other) grown(below,above) some()",
    "instruments.Instrument": "says(told) names() tellings()",
    "gauges.Gauge": "room(told)",
    "racks.Rack": "names() possible(readings,most) least_liars(readings) blame(readings,number) "
                  "sure_liars(readings,most) sure_honest(readings,most) clashes(readings)",
    "tracks.Track": "record(*tellings) at(tick) smoothed(tick) tell_late(tick,gauge,told) undo() story(number) ticks()",
    "grids.Grid": "effects() total(row,column,form,time=0)",
    "plates.Plate": "lines() wells(prefix) without(*indexes) turned()",
    "strikes.Strikes": "names() claims() lots() walk(first,second) blocks() block(index) joints() rises(world) "
                       "residues(world)",
    "nets.Net": "names() claims() find_ring() bound(first,second) chain(first,second) levels()",
    "closures.Closure": "names() bound(first,second) room(name) apart(first,second) net() inside(other)",
    "runs.Run": "says(told)",
    "tables.Table": "ends() word_after(tries) stops() sound(wrong) longest(wrong) softened(wrong)",
    "house.House": "allow(budget,most) place(instrument,section,budget=None) read(name,told) learn(claim,section) "
                   "drop(name,index) change(limit) undo() redo() history() run(*deeds) names() sections() budgets() "
                   "readings(name) section_of(name) budget_of(name) instrument(name) facts() quantities() says(name) "
                   "part(*sections) blaming(*names) keeping(*things) twin()",
}
STATIC = {
    "forms.Form": "one(name) gap(first,second)",
    "pieces.Pieces": "none() every() point(value) between(low,high)",
    "nets.Net": "box(name,low,high) fence(word,count,pace)",
}
SPECIAL = {
    "forms.Form": "add radd sub rsub neg mul rmul eq contains getitem len str iter call",
    "claims.Claim": "invert and or eq str call",
    "pieces.Pieces": "and or sub invert eq contains len bool str iter",
    "instruments.Instrument": "eq str",
    "racks.Rack": "len contains",
    "tracks.Track": "len",
    "grids.Grid": "eq",
    "plates.Plate": "len",
    "strikes.Strikes": "add eq len",
    "nets.Net": "add eq",
    "closures.Closure": "contains and or eq",
    "tables.Table": "eq str",
    "house.House": "len contains",
    "rehearsals.Rehearsal": "enter exit",
}


def split(text):
    word, _, rest = text.partition("(")
    return word, "(" + rest


def shape(call, skip=0):
    """The parameters of a function, as the interface writes them."""
    parameters = list(inspect.signature(call).parameters.values())[skip:]
    return str(inspect.Signature(parameters)).replace(" ", "")


def owner_of(path):
    module, word = path.split(".")
    return getattr(importlib.import_module("metehouse." + module), word)


class TestInterface(unittest.TestCase):
    def test_functions(self):
        for module, text in FUNCTIONS.items():
            found = importlib.import_module("metehouse." + module)
            for one in text.split():
                word, expected = split(one)
                self.assertEqual(shape(getattr(found, word)), expected, one)
                self.assertEqual(getattr(found, word).__module__, found.__name__)

    def test_classes(self):
        for module, texts in CLASSES.items():
            found = importlib.import_module("metehouse." + module)
            for one in texts:
                word, expected = split(one)
                self.assertEqual(shape(getattr(found, word)), expected, one)
                self.assertEqual(getattr(found, word).__module__, found.__name__)

    def test_methods_stand_in_the_class_itself(self):
        for path, text in METHODS.items():
            for one in text.split():
                word, expected = split(one)
                self.assertEqual(shape(vars(owner_of(path))[word], 1), expected, (path, one))
        for path, text in SPECIAL.items():
            for word in text.split():
                self.assertIn(f"__{word}__", vars(owner_of(path)), path)
        for path, text in STATIC.items():
            for one in text.split():
                word, expected = split(one)
                self.assertIsInstance(vars(owner_of(path))[word], staticmethod)
                self.assertEqual(shape(getattr(owner_of(path), word)), expected)

    def test_class_methods(self):
        self.assertIsInstance(vars(owner_of("tables.Table"))["race"], classmethod)
        self.assertEqual(shape(owner_of("tables.Table").race), "(wrong)")

    def test_properties_and_class_values(self):
        self.assertIsInstance(vars(House)["limit"], property)
        self.assertIsInstance(vars(owner_of("tracks.Track"))["now"], property)
        self.assertEqual((House.MOST_DEEDS, Claim.MOST_DEPTH, Claim.MOST_WAYS), (200, 8, 64))
        self.assertEqual(MOST_PIECES, 12)

    def test_generators(self):
        for path in ("cancelling.rings", "tunings.tunings", "spans.signings", "stopping.endings"):
            self.assertTrue(inspect.isgeneratorfunction(owner_of(path)), path)
        self.assertTrue(inspect.isgeneratorfunction(owner_of("tracks.Track").ticks))


if __name__ == "__main__":
    unittest.main()
