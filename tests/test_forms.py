"""Point [5]: forms, their sums and their values."""

import copy
import inspect
import random
import string
import unittest
from fractions import Fraction

from offscale import forms
from offscale.errors import BadForm, Missing, SlideError
from offscale.forms import Form
from offscale.fractions import is_fraction
from samples import ANYTHING, DIGITS, any_fraction, exact, pair

NAMES = ("a", "b", "z", "ab", "ba", "xy", "zz", "abc", "cab", "xyz", "aaa", "zzz")

# Zero, wholes, fractions, and some that floats cannot tell apart.
FRACTIONS = (
    (0, 1), (1, 1), (-1, 1), (3, 1), (1, 2), (-1, 2), (2, 3), (-7, 5), (22, 7),
    (DIGITS, DIGITS - 1), (-DIGITS, DIGITS + 1), (1, DIGITS), (DIGITS, 1),
)

NO_FRACTIONS = (
    0, 1, -1, True, None, "", "1/2", (), (1,), (1, 2, 3), [0, 1], [1, 2], (0, 2), (2, 4), (1, 0), (1, -2),
    (True, 1), (1, True), (False, 1), ("1", "2"), ((1, 2), 1), {}, {1: 2}, Form(),
)

NO_NAMES = (
    "", "abcd", "left", "right", "A", "Ab", "aB", "abC", "a1", "1", "a b", " a", "a ", "a\n", "_", "a_", "-", "a-b",
    "~", "0", 0, 1, True, None, (), ("a",), ["a"], {"a": 1}, Form(), b"a",
    chr(0xE4), "a" + chr(0xDF), chr(0x430),
)


def any_terms(chance, most=5):
    names = chance.sample(NAMES, chance.randint(0, most))
    return tuple((name, any_fraction(chance)) for name in names)


def any_form(chance, most=5):
    return Form(any_terms(chance, most), any_fraction(chance))


def any_operands(chance):
    return {name: any_fraction(chance) for name in NAMES}


def value_of(form, operands):
    """The sum that a form stands for, by Python's own fractions."""
    parts = [exact(factor) * exact(operands[name]) for name, factor in form.terms]
    return sum(parts, exact(form.constant))


class FormCase(unittest.TestCase):
    def setUp(self):
        self.chance = random.Random(5)

    def check_form(self, form):
        """Check that all parts of a form are as the document tells."""
        self.assertIs(type(form), Form)
        self.assertIs(type(form.terms), tuple)
        names = [name for name, _ in form.terms]
        self.assertEqual(names, sorted(set(names)))
        self.assertEqual(form.names, tuple(names))
        for term in form.terms:
            self.assertIs(type(term), tuple)
            self.assertTrue(is_fraction(term[1]))
            self.assertNotEqual(term[1], (0, 1))
        self.assertTrue(is_fraction(form.constant))


class InterfaceTest(unittest.TestCase):
    def test_example(self):
        form = Form((("y", (1, 2)), ("x", (-1, 3))), (1, 4))
        self.assertEqual(
            [form.terms, str(form), form({"x": (3, 4), "y": (1, 2)}), form - form == Form()],
            [(("x", (-1, 3)), ("y", (1, 2))), "-1/3 x + 1/2 y + 1/4", (1, 4), True],
        )

    def test_arguments(self):
        self.assertEqual(str(inspect.signature(Form)), "(terms=(), constant=(0, 1))")
        self.assertEqual(str(inspect.signature(Form.factor)), "(self, name)")
        self.assertEqual(Form.__module__, "offscale.forms")
        self.assertIs(forms.Form, Form)

    def test_all_stands_in_the_class_itself(self):
        for name in ("factor", "__add__", "__sub__", "__neg__", "__mul__", "__call__", "__eq__", "__str__"):
            self.assertTrue(inspect.isfunction(vars(Form).get(name)), name)
        for name in ("terms", "constant", "names"):
            self.assertIsInstance(vars(Form).get(name), property)

    def test_properties_are_only_read(self):
        form = Form((("x", (1, 2)),), (3, 4))
        for name in ("terms", "constant", "names"):
            with self.subTest(name=name):
                self.assertRaises(AttributeError, setattr, form, name, ())
        self.assertEqual(str(form), "1/2 x + 3/4")


class MakeTest(FormCase):
    def test_zero(self):
        for form in (Form(), Form(()), Form((), (0, 1)), Form((("x", (0, 1)),))):
            self.assertEqual([form.terms, form.constant, form.names], [(), (0, 1), ()])
            self.assertEqual(form, Form())

    def test_parts(self):
        for _ in range(300):
            terms, constant = any_terms(self.chance), any_fraction(self.chance)
            form = Form(terms, constant)
            self.check_form(form)
            kept = sorted(term for term in terms if term[1] != (0, 1))
            self.assertEqual(form.terms, tuple(kept))
            self.assertEqual(form.names, tuple(name for name, _ in kept))
            self.assertEqual(form.constant, constant)
            for name in (*NAMES, "q"):
                self.assertEqual(form.factor(name), dict(kept).get(name, (0, 1)))

    def test_names_of_all_lengths_and_letters(self):
        names = [*string.ascii_lowercase, "az", "za", "abc", "zzz", "lef", "try"]
        self.chance.shuffle(names)
        form = Form(tuple((name, (1, 2)) for name in names))
        self.assertEqual(form.names, tuple(sorted(names)))

    def test_order_of_names(self):
        form = Form((("b", (1, 1)), ("ab", (2, 1)), ("a", (3, 1)), ("abc", (4, 1)), ("aa", (5, 1))))
        self.assertEqual(form.names, ("a", "aa", "ab", "abc", "b"))

    def test_fractions(self):
        for one in FRACTIONS:
            form = Form((("x", one),), one)
            self.check_form(form)
            self.assertEqual([form.factor("x"), form.constant], [one, one])

    def test_terms_in_any_order(self):
        terms = list(any_terms(self.chance, 12))
        form = Form(tuple(terms), (1, 3))
        for _ in range(20):
            self.chance.shuffle(terms)
            self.assertEqual(Form(tuple(terms), (1, 3)), form)


class WrongPartsTest(FormCase):
    def check_bad(self, *parts):
        with self.subTest(parts=parts):
            with self.assertRaises(BadForm) as caught:
                Form(*parts)
            self.assertIsInstance(caught.exception, SlideError)

    def test_terms_of_all_kinds(self):
        for value in ANYTHING:
            if value not in ((), (("x", (1, 2)),)):
                self.check_bad(value)
                self.check_bad(value, (1, 2))
            if value != ("x", (1, 2)):
                self.check_bad((value,))
            self.check_bad((("x", (1, 2)), value))

    def test_constants_of_all_kinds(self):
        for value in (*ANYTHING, *NO_FRACTIONS):
            if not is_fraction(value):
                self.check_bad((), value)
                self.check_bad((("x", (1, 2)),), value)

    def test_both_wrong(self):
        for value in NO_FRACTIONS:
            if value != ():
                self.check_bad(value, value)

    def test_lists_for_tuples(self):
        self.check_bad([])
        self.check_bad([("x", (1, 2))])
        self.check_bad((["x", (1, 2)],))
        self.check_bad((("x", [1, 2]),))
        self.check_bad((), [0, 1])
        self.check_bad({"x": (1, 2)})

    def test_names_twice(self):
        self.check_bad((("x", (1, 2)), ("x", (1, 2))))
        self.check_bad((("x", (1, 2)), ("x", (1, 3))))
        self.check_bad((("x", (1, 2)), ("y", (1, 1)), ("x", (-1, 2))))
        self.check_bad((("x", (0, 1)), ("x", (0, 1))))
        self.check_bad((("x", (0, 1)), ("x", (1, 2))))

    def test_wrong_names(self):
        for name in NO_NAMES:
            self.check_bad(((name, (1, 2)),))
            self.check_bad(((name, (0, 1)),))
            self.check_bad((("x", (1, 2)), (name, (1, 2))))

    def test_wrong_factors(self):
        for factor in NO_FRACTIONS:
            self.check_bad((("x", factor),))
            self.check_bad((("x", (1, 2)), ("y", factor)))

    def test_terms_of_other_lengths(self):
        self.check_bad(((),))
        self.check_bad((("x",),))
        self.check_bad((("x", (1, 2), (1, 2)),))
        self.check_bad(("x", (1, 2)))


class ValueTest(FormCase):
    def test_values(self):
        for _ in range(200):
            form, operands = any_form(self.chance), any_operands(self.chance)
            value = form(operands)
            self.assertTrue(is_fraction(value))
            self.assertEqual(value, pair(value_of(form, operands)))

    def test_only_its_names_count(self):
        form = Form((("x", (1, 2)), ("y", (0, 1))), (1, 3))
        self.assertEqual(form({"x": (1, 1)}), (5, 6))
        self.assertEqual(form({"x": (1, 1), "y": (7, 1), "z": (9, 1)}), (5, 6))

    def test_no_names(self):
        self.assertEqual(Form()({}), (0, 1))
        self.assertEqual(Form((), (-2, 3))({"x": (1, 2)}), (-2, 3))

    def test_operands_are_not_changed(self):
        operands = {"y": (1, 2), "x": (3, 4), "z": (5, 6)}
        before = list(copy.deepcopy(operands).items())
        Form((("x", (1, 2)), ("y", (1, 2))))(operands)
        self.assertEqual(list(operands.items()), before)

    def test_missing(self):
        for _ in range(300):
            form, operands = any_form(self.chance), any_operands(self.chance)
            for name in self.chance.sample(NAMES, 4):
                del operands[name]
            missing = [name for name in form.names if name not in operands]
            if missing:
                with self.assertRaises(Missing) as caught:
                    form(operands)
                self.assertEqual(caught.exception.name, missing[0])
            else:
                self.assertEqual(form(operands), pair(value_of(form, operands)))

    def test_all_missing(self):
        form = Form((("y", (1, 1)), ("ab", (1, 1)), ("b", (1, 1)), ("aa", (0, 1))))
        with self.assertRaises(Missing) as caught:
            form({})
        self.assertEqual(caught.exception.name, "ab")
        with self.assertRaises(Missing) as caught:
            form({"ab": (1, 1), "y": (1, 1)})
        self.assertEqual(caught.exception.name, "b")


class SumTest(FormCase):
    def test_values(self):
        for _ in range(200):
            one, other, factor = any_form(self.chance), any_form(self.chance), any_fraction(self.chance)
            told = [(str(one), one.terms), (str(other), other.terms)]
            operands = any_operands(self.chance)
            left, right = value_of(one, operands), value_of(other, operands)
            results = (
                (one + other, left + right),
                (one - other, left - right),
                (-one, -left),
                (one * factor, left * exact(factor)),
            )
            for form, value in results:
                self.check_form(form)
                self.assertEqual(form(operands), pair(value))
            self.assertEqual([(str(one), one.terms), (str(other), other.terms)], told)

    def test_factors(self):
        for _ in range(200):
            one, other, factor = any_form(self.chance), any_form(self.chance), any_fraction(self.chance)
            for name in NAMES:
                left, right = exact(one.factor(name)), exact(other.factor(name))
                self.assertEqual((one + other).factor(name), pair(left + right))
                self.assertEqual((one - other).factor(name), pair(left - right))
                self.assertEqual((-one).factor(name), pair(-left))
                self.assertEqual((one * factor).factor(name), pair(left * exact(factor)))

    def test_names_that_cancel(self):
        one = Form((("x", (1, 2)), ("y", (1, 3))), (1, 4))
        other = Form((("x", (-1, 2)), ("z", (1, 3))), (-1, 4))
        self.assertEqual((one + other).terms, (("y", (1, 3)), ("z", (1, 3))))
        self.assertEqual((one + other).constant, (0, 1))
        self.assertEqual(one - one, Form())
        self.assertEqual(one + -one, Form())
        self.assertEqual(one * (0, 1), Form())

    def test_laws(self):
        for _ in range(50):
            one, other = any_form(self.chance), any_form(self.chance)
            self.assertEqual(one + other, other + one)
            self.assertEqual(one + other - other, one)
            self.assertEqual(one - other, -(other - one))
            self.assertEqual(one * (2, 1), one + one)
            self.assertEqual(one * (-1, 1), -one)
            self.assertEqual(one * (1, 1), one)

    def test_long_fractions(self):
        one = Form((("x", (DIGITS, DIGITS + 1)),), (1, DIGITS))
        other = Form((("x", (DIGITS + 1, DIGITS)),), (1, DIGITS + 1))
        told = Fraction(DIGITS, DIGITS + 1) + Fraction(DIGITS + 1, DIGITS)
        self.assertEqual((one + other).factor("x"), pair(told))
        self.assertEqual((one + other).constant, pair(Fraction(1, DIGITS) + Fraction(1, DIGITS + 1)))


class EqualTest(FormCase):
    def check_equal(self, one, other, answer):
        self.assertIs(one == other, answer)
        self.assertIs(other == one, answer)
        self.assertIs(one != other, not answer)
        self.assertIs(other != one, not answer)

    def test_made_in_another_way(self):
        for _ in range(100):
            form = any_form(self.chance)
            again = Form((), form.constant)
            for name, factor in form.terms[::-1]:
                again = again + Form(((name, (1, 1)),)) * factor
            self.check_equal(form, again, True)
            self.check_equal(form, Form((*form.terms, ("q", (0, 1))), form.constant), True)

    def test_unlike(self):
        form = Form((("x", (1, 2)),), (1, 4))
        for other in (
            Form(), Form((("x", (1, 2)),)), Form((), (1, 4)), Form((("y", (1, 2)),), (1, 4)),
            Form((("x", (-1, 2)),), (1, 4)), Form((("x", (1, 2)),), (3, 4)),
            Form((("x", (1, 2)), ("y", (1, 2))), (1, 4)),
        ):
            self.check_equal(form, other, False)

    def test_other_kinds(self):
        for form in (Form(), Form((("x", (1, 2)),), (1, 4))):
            for value in ANYTHING:
                if not isinstance(value, Form):
                    self.check_equal(form, value, False)
            self.check_equal(form, form.terms, False)
            self.check_equal(form, str(form), False)
            self.check_equal(form, (form.terms, form.constant), False)
        self.check_equal(Form(), (0, 1), False)


class TextTest(FormCase):
    def test_texts(self):
        for _ in range(100):
            form = any_form(self.chance)
            parts = [f"{factor[0]}/{factor[1]} {name}" for name, factor in form.terms]
            parts.append(f"{form.constant[0]}/{form.constant[1]}")
            self.assertEqual(str(form), " + ".join(parts))

    def test_some(self):
        self.assertEqual(str(Form()), "0/1")
        self.assertEqual(str(Form((), (-5, 3))), "-5/3")
        self.assertEqual(str(Form((("b", (1, 1)), ("a", (-1, 2))))), "-1/2 a + 1/1 b + 0/1")
        self.assertEqual(str(Form((("x", (DIGITS, 3)),))), f"{DIGITS}/3 x + 0/1")


if __name__ == "__main__":
    unittest.main()
