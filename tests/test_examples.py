"""The examples of the interface, word for word."""

import unittest

SESSIONS = [
    ("exact", r"""
>>> from metehouse.exact import compare, ratio
>>> ratio(6, -4), compare((1, 3), (2, 7))
((-3, 2), 1)
"""),
    ("forms", r"""
>>> from metehouse.forms import Form, make_form
>>> f = Form([("b", -2), ("a", 1), ("b", 1)], 4)
>>> f.terms, str(2 * f - 1), f({"a": (1, 2), "b": (1, 1)}), str(make_form(2, 3, k=-1))
((('a', 1), ('b', -1)), '2 a - 2 b + 7', (7, 2), '-k + 5')
"""),
    ("forms", r"""
>>> from metehouse.forms import Form
>>> Form([("a", 1), ("B", 0)])
raises BadName(name='B')
"""),
    ("claims", r"""
>>> from metehouse.claims import Below, Same
>>> from metehouse.forms import Form
>>> claim = ~Same(Form.gap("a", "b"), 3) & Below(Form.one("a"))
>>> str(claim), claim.width, claim({"a": (-1, 2), "b": (0, 1)})
('both (not (a - b - 3 = 0)) (a < 0)', 2, True)
"""),
    ("claims", r"""
>>> from metehouse.claims import Same
>>> from metehouse.forms import Form
>>> way = (~Same(Form.one("a"), 2)).ways()[1]
>>> str(way[0][0]), way[0][1]
('-a + 2', '<')
"""),
    ("pieces", r"""
>>> from metehouse.pieces import Pieces, shared
>>> lots = [Pieces.between(0, 4), Pieces.between(2, 6), Pieces.between(5, 9)]
>>> str(shared(lots, 1)), str(shared(lots, 0)), str(~Pieces.between(1, 3))
('[2, 4] [5, 6]', 'none', '(.., 1) (3, ..)')
"""),
    ("gauges", r"""
>>> from metehouse.forms import Form
>>> from metehouse.gauges import CoarseGauge
>>> gauge = CoarseGauge("g", Form.one("a"), step=5)
>>> str(gauge.says(10)), str(gauge.room(10)), str(gauge)
('both (-a + 10 <= 0) (a - 15 < 0)', '[10, 15)', 'coarse g 0 5 : a')
"""),
    ("gauges", r"""
>>> from metehouse.forms import Form
>>> from metehouse.gauges import CoarseGauge
>>> CoarseGauge("g", Form.one("a"), step=5).says(12)
raises BadReading(name='g', told=12)
"""),
    ("racks", r"""
>>> from metehouse.forms import Form
>>> from metehouse.gauges import Gauge
>>> from metehouse.racks import Rack
>>> a = Form.one("a")
>>> rack = Rack(Gauge("x", a, radius=2), Gauge("y", a, radius=1), Gauge("z", a, radius=3))
>>> told = {"x": 10, "y": 13, "z": 40}
>>> str(rack.possible(told, 1)), rack.least_liars(told), rack.sure_liars(told, 1), rack.clashes(told)
('[12, 12]', 1, ['z'], [('x', 'z'), ('y', 'z')])
"""),
    ("tracks", r"""
>>> from metehouse.forms import Form
>>> from metehouse.gauges import Gauge
>>> from metehouse.pieces import Pieces
>>> from metehouse.tracks import Track
>>> track = Track("a", Pieces.between(0, 100), pace=3)
>>> gauge = Gauge("g", Form.one("a"), radius=1)
>>> str(track.record((gauge, 10))), str(track.record((gauge, 14))), str(track.smoothed(0))
('[9, 11]', '[13, 14]', '[10, 11]')
"""),
    ("ranks", r"""
>>> from metehouse.ranks import worst_miss
>>> worst_miss([1, 4, 2], 1, 1), worst_miss([1, 4, 2], 0, 1)
((4, 4), (2, None))
"""),
    ("cancelling", r"""
>>> from metehouse.cancelling import cancel, rings
>>> from metehouse.forms import Form
>>> lines = [Form.gap("a", "b"), Form.gap("b", "c"), Form.gap("a", "c")]
>>> cancel(lines[:2], Form.gap("a", "c")), list(rings(lines))
(('weights', 1, [1, 1]), [[-1, -1, 1]])
"""),
    ("strikes", r"""
>>> from metehouse.strikes import Strikes
>>> strikes = Strikes(("a", "b", 1), ("b", "c", 2), ("c", "d", 2), ("d", "b", 0))
>>> strikes.blocks(), strikes.joints(), strikes.walk("a", "d")
([[0], [1, 2, 3]], ['b'], [0, 3])
"""),
    ("nets", r"""
>>> from metehouse.nets import Net
>>> net = Net.fence("w", 3, 2) + Net([("w.0", "w.2", 3, "<")])
>>> net.bound("w.0", "w.2"), net.chain("w.0", "w.2"), net.bound("w.2", "w.0"), net.bound(None, "w.0")
((3, '<'), [4], (4, '<='), None)
"""),
    ("misreads", r"""
>>> from metehouse.misreads import fewest_misread, heights
>>> from metehouse.nets import Net
>>> net = Net.fence("w", 2, 2) + Net.box("w.0", 0, 20)
>>> trials = [("w.0", "missed", 9), ("w.1", "reached", 5)]
>>> fewest_misread(net, trials), str(heights(net, trials, "w.0", 1))
(1, '[0, 7] (9, 20]')
"""),
    ("tables", r"""
>>> from metehouse.tables import Table
>>> table = Table.race(1)
>>> str(table), table.word_after("rmr"), table.sound(1), table.longest(0)
('3 0 2 missed 1 2 missed 2 0 reached 2 1 reached', 'reached', None, 2)
"""),
    ("tables", r"""
>>> from metehouse.tables import Table
>>> Table(2, {(2, 0): "reached", (0, 2): "missed"})
raises BadTable(fault='gap')
"""),
    ("races", r"""
>>> from metehouse.races import quickest
>>> str(quickest(1, 2))
'2 0 2 missed 1 1 unsure 2 0 reached'
"""),
    ("reading", r"""
>>> from metehouse.reading import read_claim, read_form
>>> str(read_form("a - 2 b + 3")), str(read_claim("either (a < 0) (not (b = 0))"))
('a - 2 b + 3', 'either (a < 0) (not (b = 0))')
"""),
    ("reading", r"""
>>> from metehouse.reading import read_form
>>> read_form("b - a")
raises BadText(text='b - a')
"""),
]


def shown(error):
    """How a session shows the error that is raised."""
    attributes = ", ".join(f"{name}={value!r}" for name, value in vars(error).items())
    return f"raises {type(error).__name__}({attributes})"


def played(lines):
    """What the last of the lines gives, after the lines before it."""
    names = {}
    for line in lines[:-1]:
        exec(line, names)
    try:
        return repr(eval(lines[-1], names))
    except ValueError as error:
        return shown(error)


class TestExamples(unittest.TestCase):
    def test_sessions(self):
        for module, text in SESSIONS:
            lines = text.strip().split("\n")
            calls = [line[4:] for line in lines if line.startswith(">>> ")]
            self.assertEqual(len(calls), len(lines) - 1, module)
            self.assertEqual(played(calls), lines[-1], (module, calls[-1]))


if __name__ == "__main__":
    unittest.main()
