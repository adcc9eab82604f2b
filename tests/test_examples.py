"""The examples of the interface, word for word."""

import unittest

SESSIONS = [
    ("exact", r"""
>>> from metehouse.exact import compare, ratio
>>> ratio(6, -4), compare((1, 3), (2, 7))
((-3, 2), 1)
"""),
    ("forms", r"""
>>> from metehouse.forms import Form, make_form
>>> f = Form([("b", -2), ("a", 1), ("b", 1)], 4)
>>> f.terms, str(2 * f - 1), f({"a": (1, 2), "b": (1, 1)}), str(make_form(2, 3, k=-1))
((('a', 1), ('b', -1)), '2 a - 2 b + 7', (7, 2), '-k + 5')
"""),
    ("forms", r"""
>>> from metehouse.forms import Form
>>> Form([("a", 1), ("B", 0)])
raises BadName(name='B')
"""),
    ("claims", r"""
>>> from metehouse.claims import Below, Same
>>> from metehouse.forms import Form
>>> claim = ~Same(Form.gap("a", "b"), 3) & Below(Form.one("a"))
>>> str(claim), claim.width, claim({"a": (-1, 2), "b": (0, 1)})
('both (not (a - b - 3 = 0)) (a < 0)', 2, True)
"""),
    ("claims", r"""
>>> from metehouse.claims import Same
>>> from metehouse.forms import Form
>>> way = (~Same(Form.one("a"), 2)).ways()[1]
>>> str(way[0][0]), way[0][1]
('-a + 2', '<')
"""),
]


def shown(error):
    """How a session shows the error that is raised."""
    attributes = ", ".join(f"{name}={value!r}" for name, value in vars(error).items())
    return f"raises {type(error).__name__}({attributes})"


def played(lines):
    """What the last of the lines gives, after the lines before it."""
    names = {}
    for line in lines[:-1]:
        exec(line, names)
    try:
        return repr(eval(lines[-1], names))
    except ValueError as error:
        return shown(error)


class TestExamples(unittest.TestCase):
    def test_sessions(self):
        for module, text in SESSIONS:
            lines = text.strip().split("\n")
            calls = [line[4:] for line in lines if line.startswith(">>> ")]
            self.assertEqual(len(calls), len(lines) - 1, module)
            self.assertEqual(played(calls), lines[-1], (module, calls[-1]))


if __name__ == "__main__":
    unittest.main()
