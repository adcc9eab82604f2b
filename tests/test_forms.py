import itertools
import unittest
import unittest.mock

from metehouse.errors import BadName, NoQuantity
from metehouse.forms import Form, is_quantity, is_word, make_form
from tests.helping import Case

BIG = 10 ** 29 + 3


class TestNames(Case):
    def test_words(self):
        for text in ("a", "z", "abcdefgh", "level"):
            self.assertIs(is_word(text), True, text)
        for text in ("", "abcdefghi", "a1", "a.b", "A", "a b", "a\n", "\n", " a", "a-", "_"):
            self.assertIs(is_word(text), False, text)

    def test_quantities(self):
        for text in ("a", "z9", "a.1", "a..1", "abcdefgh.r11", "a" * 12, "q0.z"):
            self.assertIs(is_quantity(text), True, text)
        for text in ("", "a" * 13, "1a", ".a", "a.", "A", "aB", "a_b", "a b", "a\n", "a-1", "9", "."):
            self.assertIs(is_quantity(text), False, text)

    def test_every_word_is_a_quantity(self):
        for text in ("a", "abcdefgh"):
            self.assertTrue(is_word(text) and is_quantity(text))


class TestMaking(Case):
    def test_terms_ascend_and_are_added(self):
        form = Form([("b", 2), ("a.1", 1), ("a", -1), ("b", 1), ("a1", 4), ("c", 0)], -7)
        self.assertEqual(form.terms, (("a", -1), ("a.1", 1), ("a1", 4), ("b", 3)))
        self.assertEqual(form.constant, -7)

    def test_weights_that_cancel(self):
        form = Form([("a", BIG), ("a", -BIG)])
        self.assertEqual((form.terms, form.constant), ((), 0))
        self.assertEqual(Form(), Form([("a", 0)]))

    def test_lists_and_tuples_are_copied(self):
        terms = [("a", 1)]
        form = Form(terms, 2)
        terms.append(("b", 5))
        self.assertEqual(form.terms, (("a", 1),))
        self.assertEqual(Form((("a", 1),), 2), form)
        self.assertEqual(terms, [("a", 1), ("b", 5)])

    def test_first_bad_name(self):
        self.refused(BadName, Form, [("a", 1), ("B", 0), ("", 1)], has={"name": "B"})
        self.refused(BadName, Form, (("a.", 1), ("C", 1)), has={"name": "a."})
        self.refused(BadName, Form.one, "a" * 13, has={"name": "a" * 13})
        self.refused(BadName, Form.gap, "A", "B", has={"name": "A"})
        self.refused(BadName, Form.gap, "a", "B", has={"name": "B"})

    def test_one_and_gap(self):
        self.assertEqual(Form.one("a"), Form([("a", 1)]))
        self.assertEqual(Form.gap("a", "b"), Form([("a", 1), ("b", -1)]))
        self.assertEqual(Form.gap("a", "a"), Form())

    def test_make_form(self):
        self.assertEqual(make_form(), Form())
        self.assertEqual(make_form(1, 2, -BIG), Form((), 3 - BIG))
        self.assertEqual(make_form(1, b=2, a=0, c=-1), Form([("b", 2), ("c", -1)], 1))
        self.assertEqual(make_form(**{"a.1": 3}), Form([("a.1", 3)]))
        self.assertEqual(make_form(constants=1, weights=2).terms, (("constants", 1), ("weights", 2)))

    def test_make_form_names_the_first_keyword(self):
        self.refused(BadName, make_form, z=1, B=0, A=1, has={"name": "B"})
        self.refused(BadName, make_form, a_b=1, A=1, has={"name": "a_b"})


class TestArithmetic(Case):
    def setUp(self):
        self.forms = [
            Form(), Form((), -BIG), Form.one("a"), Form.gap("a", "b"), Form([("c", BIG), ("a", -2)], 5), make_form(b=1)]
        self.world = {"a": (1, 2), "b": (-BIG, 3), "c": (0, 1)}

    def at(self, form):
        top, bottom = form.constant * 6, 6
        for name, weight in form.terms:
            top += weight * self.world[name][0] * (6 // self.world[name][1])
        return top, bottom

    def same(self, form, top):
        self.assertEqual(self.at(form)[0], top)

    def test_sums_and_differences(self):
        for one, two in itertools.product(self.forms, repeat=2):
            self.same(one + two, self.at(one)[0] + self.at(two)[0])
            self.same(one - two, self.at(one)[0] - self.at(two)[0])
            self.assertEqual(one + two - two, one)
            self.assertEqual(one - one, Form())

    def test_integers_on_either_side(self):
        for form in self.forms:
            for number in (0, 1, -4, BIG):
                self.assertEqual(form + number, Form(form.terms, form.constant + number))
                self.assertEqual(number + form, form + number)
                self.assertEqual(form - number, form + -number)
                self.assertEqual(number - form, -(form - number))
                self.assertEqual(form * number, number * form)
                self.same(form * number, number * self.at(form)[0])
            self.assertEqual(-form, form * -1)
            self.assertEqual(form * 0, Form())
        self.assertEqual(sum(self.forms[2:4]), Form([("a", 2), ("b", -1)]))

    def test_nothing_is_changed(self):
        form = Form.gap("a", "b")
        other = form
        other += 1
        other *= 3
        form.put("a", Form.one("b"))
        self.assertEqual(form, Form([("a", 1), ("b", -1)]))
        self.assertEqual(other, Form([("a", 3), ("b", -3)], 3))

    def test_wrong_kinds(self):
        for wrong in ("a", None, [1]):
            with self.assertRaises(TypeError):
                Form.one("a") + wrong
            with self.assertRaises(TypeError):
                Form.one("a") * wrong
        with self.assertRaises(TypeError):
            Form.one("a") * Form.one("a")

    def test_equal(self):
        self.assertEqual(Form([("a", 1), ("b", 2)], 3), Form([("b", 2), ("a", 1)], 3))
        self.assertNotEqual(Form.one("a"), Form.one("b"))
        self.assertNotEqual(Form.one("a"), Form.one("a") + 1)
        self.assertNotEqual(Form.one("a"), Form.one("a") * 2)
        for other in (3, "3", None, (), (("a", 1),), unittest.mock.ANY):
            self.assertIs(Form((), 3) == other, False)
            self.assertIs(Form((), 3) != other, True)


class TestAsking(Case):
    def test_length_terms_and_weights(self):
        form = make_form(4, b=2, a=-BIG)
        self.assertEqual(len(form), 2)
        self.assertEqual(len(Form((), 9)), 0)
        self.assertEqual(list(form), [("a", -BIG), ("b", 2)])
        self.assertEqual(list(Form()), [])
        self.assertEqual((form["a"], form["b"], form["c"]), (-BIG, 2, 0))
        self.assertIs("a" in form, True)
        self.assertIs("c" in form, False)
        self.assertIs("a" in form - make_form(a=-BIG), False)
        self.assertEqual(form.names(), ("a", "b"))
        self.assertEqual(Form().names(), ())

    def test_a_form_without_terms_is_no_exception(self):
        self.assertEqual([name for name, _ in make_form(a=1, b=1)], ["a", "b"])

    def test_value(self):
        form = make_form(1, a=2, b=-3)
        self.assertEqual(form({"a": (1, 2), "b": (1, 3)}), (1, 1))
        self.assertEqual(form({"b": (1, 4), "a": (0, 1), "z": (9, 1)}), (1, 4))
        self.assertEqual(Form((), -BIG)({}), (-BIG, 1))
        self.assertEqual(Form()({}), (0, 1))
        self.assertEqual(make_form(a=BIG)({"a": (BIG, 7)}), (BIG * BIG, 7))

    def test_value_without_a_level(self):
        form = make_form(a=1, b=1, c=1)
        self.refused(NoQuantity, form, {}, has={"name": "a"})
        self.refused(NoQuantity, form, {"c": (0, 1), "a": (0, 1)}, has={"name": "b"})

    def test_put(self):
        form = make_form(1, a=2, b=-3)
        self.assertEqual(form.put("a", make_form(5, c=1, b=1)), make_form(11, c=2, b=-1))
        self.assertEqual(form.put("a", Form.one("a") + 1), form + 2)
        self.assertEqual(form.put("b", Form((), 4)), make_form(-11, a=2))
        self.assertEqual(form.put("c", make_form(5, d=1)), form)
        self.assertEqual(Form().put("a", make_form(a=1)), Form())


class TestWritten(Case):
    def test_written_forms(self):
        for form, text in [
                (make_form(3, a=1, b=-2), "a - 2 b + 3"), (Form([("a.1", -1)], -1), "-a.1 - 1"), (Form(), "0"),
                (Form((), -7), "-7"), (Form((), 7), "7"), (make_form(a=1), "a"), (make_form(a=-1), "-a"),
                (make_form(a=-2), "-2 a"), (make_form(a=2), "2 a"), (make_form(a=1, b=1), "a + b"),
                (make_form(a=-1, b=-1), "-a - b"), (make_form(-1, a=BIG, b=-BIG), f"{BIG} a - {BIG} b - 1")]:
            self.assertEqual(str(form), text)
            self.assertKind(str(form), str)


if __name__ == "__main__":
    unittest.main()
