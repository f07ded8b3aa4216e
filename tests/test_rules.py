"""Points [7] and [8]: rules, their scales, and where figures stand on them."""

import inspect
import random
import string
import unittest
from fractions import Fraction
from math import floor

from offscale import rules
from offscale.bounds import MAX_SCALES, MAX_TURNS
from offscale.errors import BadRule, NoMantissa, NoPosition, NoScale, NoStretch, SlideError
from offscale.fractions import is_fraction
from offscale.rules import COMMON_BODY, COMMON_SLIDE, Rule, figure, place
from samples import ANYTHING, DIGITS, any_mantissa, exact, pair

NO_SCALE_NAMES = (
    "", "a", "d", "Ab", "aB", "ABCD", "LEFT", "A1", "1", "A ", " A", "A\n", "A.", "A_", "-", 0, 1, True, None,
    (), ("A",), ["A"], b"A", chr(0xC4), chr(0x410), "A" + chr(0x391),
)

NO_TURNS = (0, 4, -4, 5, DIGITS, -DIGITS, True, False, None, "1", "", (1,), (1, 1), [1], {})

NO_MANTISSAS = (
    0, 1, True, None, "", "0", (), (0,), (1, 1), (2, 1), (-1, 2), (3, 2), (2, 4), (0, 2), (1, 0), (1, -2), [0, 1],
    [1, 2], (True, 2), (False, 1), (0, True), (1, 2, 3), (DIGITS, DIGITS - 1), (-1, DIGITS), {}, ((0, 1),), ("0", "1"),
)

NO_POSITIONS = tuple(value for value in NO_MANTISSAS if value != (1, 1))

MANTISSAS = ((0, 1), (1, 2), (1, 3), (2, 3), (1, 4), (3, 4), (5, 7), (DIGITS - 1, DIGITS), (1, DIGITS))

FOLDS = ((0, 1), (1, 2), (1, 3), (3, 4), (1, 10), (DIGITS - 1, DIGITS))

TURNS = tuple(turns for turns in range(-MAX_TURNS, MAX_TURNS + 1) if turns != 0)

# A rule for each number of turns, with a scale for each fold.
FOLDED = tuple(
    (turns, Rule((), tuple((string.ascii_uppercase[at], turns, fold) for at, fold in enumerate(FOLDS))))
    for turns in TURNS
)


def scales(many, names=string.ascii_uppercase):
    return tuple((names[at], TURNS[at % len(TURNS)], FOLDS[at % len(FOLDS)]) for at in range(many))


class InterfaceTest(unittest.TestCase):
    def test_example(self):
        rule = Rule.common()
        self.assertEqual(
            [
                place(rule, "D", 0, (1, 2)),
                place(rule, "A", 1, (1, 2)),
                place(rule, "CI", 0, (1, 4)),
                figure(rule, "K", (1, 2)),
                figure(rule, "CI", (3, 4)),
                figure(rule, "D", (1, 1)),
            ],
            [(1, 2), (3, 4), (3, 4), (1, (1, 2)), (-1, (1, 4)), (1, (0, 1))],
        )

    def test_arguments(self):
        self.assertEqual(str(inspect.signature(Rule)), "(body, slide)")
        self.assertEqual(str(inspect.signature(Rule.common)), "()")
        self.assertEqual(str(inspect.signature(Rule.scale)), "(self, name)")
        self.assertEqual(str(inspect.signature(Rule.is_sliding)), "(self, name)")
        self.assertEqual(str(inspect.signature(place)), "(rule, name, stretch, mantissa)")
        self.assertEqual(str(inspect.signature(figure)), "(rule, name, position)")
        for thing in (Rule, place, figure):
            self.assertEqual(thing.__module__, "offscale.rules")

    def test_all_stands_in_the_class_itself(self):
        for name in ("scale", "is_sliding", "__contains__", "__eq__"):
            self.assertTrue(inspect.isfunction(vars(Rule).get(name)), name)
        for name in ("body", "slide"):
            self.assertIsInstance(vars(Rule).get(name), property)
        self.assertIsInstance(vars(Rule).get("common"), classmethod)

    def test_common(self):
        self.assertEqual(COMMON_BODY, (("A", 2, (0, 1)), ("D", 1, (0, 1)), ("K", 3, (0, 1))))
        self.assertEqual(COMMON_SLIDE, (("B", 2, (0, 1)), ("C", 1, (0, 1)), ("CI", -1, (0, 1))))
        self.assertIs(type(Rule.common()), Rule)
        self.assertEqual([Rule.common().body, Rule.common().slide], [COMMON_BODY, COMMON_SLIDE])
        self.assertIs(rules.COMMON_BODY, COMMON_BODY)

    def test_never_changes(self):
        rule = Rule.common()
        self.assertRaises(AttributeError, setattr, rule, "body", ())
        self.assertRaises(AttributeError, setattr, rule, "slide", ())
        self.assertEqual(rule, Rule.common())


class MakeTest(unittest.TestCase):
    def test_all_lengths(self):
        for left in range(MAX_SCALES + 1):
            for right in range(MAX_SCALES + 1):
                body, slide = scales(left), scales(right, string.ascii_uppercase[::-1])
                rule = Rule(body, slide)
                self.assertEqual([rule.body, rule.slide], [body, slide])
                self.assertIs(type(rule.body), tuple)
                self.assertIs(type(rule.slide), tuple)

    def test_scales(self):
        for name in ("A", "Z", "AA", "CI", "ZZ", "ABC", "AAA", "ZZZ"):
            for turns in TURNS:
                for fold in (*FOLDS, *MANTISSAS):
                    scale = (name, turns, fold)
                    self.assertEqual(Rule((scale,), ()).body, (scale,))
                    self.assertEqual(Rule((), (scale,)).slide, (scale,))


class WrongPartsTest(unittest.TestCase):
    def check_bad(self, word, body, slide):
        with self.subTest(body=body, slide=slide):
            with self.assertRaises(BadRule) as caught:
                Rule(body, slide)
            self.assertEqual(caught.exception.word, word)
            self.assertIsInstance(caught.exception, SlideError)

    def check_both(self, word, wrong, right=COMMON_SLIDE):
        self.check_bad(word, wrong, right)
        self.check_bad(word, right, wrong)
        self.check_bad(word, wrong, ())
        self.check_bad(word, (), wrong)

    def test_values_of_all_kinds(self):
        for value in ANYTHING:
            if not isinstance(value, tuple) or len(value) > MAX_SCALES:
                self.check_both("scales", value)
                self.check_bad("scales", value, value)
            elif value not in ((), (("D", 1, (0, 1)),)):
                self.check_both("scale", value)
            if value != ("D", 1, (0, 1)):
                self.check_both("scale", (value,))
                self.check_both("scale", (("D", 1, (0, 1)), value))

    def test_seven(self):
        self.check_both("scales", scales(7))
        self.check_both("scales", ((),) * 7)
        self.check_bad("scales", scales(7), scales(7))

    def test_lists(self):
        self.check_both("scales", list(COMMON_BODY))
        self.check_both("scales", [])
        self.check_both("scale", (["D", 1, (0, 1)],))
        self.check_both("scale", (("D", 1, [0, 1]),))

    def test_wrong_scales(self):
        for name in NO_SCALE_NAMES:
            self.check_both("scale", ((name, 1, (0, 1)),))
        for turns in NO_TURNS:
            self.check_both("scale", (("D", turns, (0, 1)),))
        for fold in NO_MANTISSAS:
            self.check_both("scale", (("D", 1, fold),))
        for item in (("D",), ("D", 1), ("D", 1, (0, 1), 0), (1, "D", (0, 1)), ("D", (0, 1), 1)):
            self.check_both("scale", (item,))
            for at in range(6):
                row = scales(5)
                self.check_both("scale", (*row[:at], item, *row[at:]), ())

    def test_names_twice(self):
        one, other = ("D", 1, (0, 1)), ("D", -2, (1, 2))
        self.check_bad("name", (one, one), ())
        self.check_bad("name", (), (one, one))
        self.check_bad("name", (one,), (one,))
        self.check_bad("name", (one, other), ())
        self.check_bad("name", (one,), (other,))
        self.check_bad("name", scales(6), (("F", 1, (0, 1)),))
        self.check_bad("name", scales(6), scales(1))
        self.check_bad("name", COMMON_BODY, (*COMMON_SLIDE, ("K", 1, (0, 1))))

    def test_the_first_word(self):
        wrong, twice = (("d", 1, (0, 1)),), (("D", 1, (0, 1)), ("D", 1, (0, 1)))
        for word, one, other in (
            ("scales", wrong, None),
            ("scales", wrong * 7, wrong),
            ("scales", twice, twice * 4),
            ("scales", twice, [*twice]),
            ("scale", (*wrong, *twice), twice),
            ("scale", twice, wrong),
            ("scale", wrong + wrong, ()),
        ):
            self.check_bad(word, one, other)
            self.check_bad(word, other, one)


class ScalesTest(unittest.TestCase):
    def check_unknown(self, rule, name):
        with self.subTest(name=name):
            self.assertIs(name in rule, False)
            for ask in (rule.scale, rule.is_sliding):
                with self.assertRaises(NoScale) as caught:
                    ask(name)
                self.assertIs(caught.exception.name, name)
                self.assertIsInstance(caught.exception, LookupError)
            with self.assertRaises(NoScale) as caught:
                place(rule, name, 0, (0, 1))
            self.assertIs(caught.exception.name, name)
            with self.assertRaises(NoScale) as caught:
                figure(rule, name, (0, 1))
            self.assertIs(caught.exception.name, name)

    def test_its_own(self):
        for rule in (Rule.common(), Rule(scales(6), scales(6, "UVWXYZ")), Rule((), scales(3)), Rule(scales(1), ())):
            for row, slides in ((rule.body, False), (rule.slide, True)):
                for name, turns, fold in row:
                    self.assertIs(name in rule, True)
                    self.assertIs(rule.is_sliding(name), slides)
                    self.assertEqual(rule.scale(name), (turns, fold))
                    self.assertIs(type(rule.scale(name)), tuple)

    def test_names_that_it_has_not(self):
        for name in ("E", "AA", "DD", "L", "a", "d", "ci", "", "A ", "left", "CIF"):
            self.check_unknown(Rule.common(), name)
        for name in ("A", "D", "C"):
            self.check_unknown(Rule((), ()), name)

    def test_other_kinds(self):
        for value in ANYTHING:
            if value not in ("A", "D", "CI"):
                self.check_unknown(Rule.common(), value)
            self.check_unknown(Rule((), ()), value)
        for row in (*COMMON_BODY, *COMMON_SLIDE):
            self.check_unknown(Rule.common(), row)
            self.check_unknown(Rule.common(), [row[0]])
            self.check_unknown(Rule.common(), row[1])


class EqualTest(unittest.TestCase):
    def check_equal(self, one, other, answer):
        self.assertIs(one == other, answer)
        self.assertIs(other == one, answer)
        self.assertIs(one != other, not answer)

    def test_equal(self):
        self.check_equal(Rule.common(), Rule(COMMON_BODY, COMMON_SLIDE), True)
        self.check_equal(Rule((), ()), Rule((), ()), True)
        self.check_equal(Rule(scales(4), ()), Rule(scales(4), ()), True)

    def test_unlike(self):
        for other in (
            Rule(COMMON_SLIDE, COMMON_BODY), Rule(COMMON_BODY, ()), Rule((), COMMON_SLIDE), Rule((), ()),
            Rule(COMMON_BODY[::-1], COMMON_SLIDE), Rule(COMMON_BODY, COMMON_SLIDE[::-1]),
            Rule(COMMON_BODY, (*COMMON_SLIDE[:2], ("CI", -1, (1, 2)))),
            Rule(COMMON_BODY, (*COMMON_SLIDE[:2], ("CI", 1, (0, 1)))),
            Rule((*COMMON_BODY[:2], ("L", 3, (0, 1))), COMMON_SLIDE),
            Rule(COMMON_BODY + COMMON_SLIDE, ()),
        ):
            self.check_equal(Rule.common(), other, False)

    def test_other_kinds(self):
        for value in (*ANYTHING, (COMMON_BODY, COMMON_SLIDE), COMMON_BODY):
            if not isinstance(value, Rule):
                self.check_equal(Rule.common(), value, False)
                self.check_equal(Rule((), ()), value, False)


class PlaceTest(unittest.TestCase):
    def check_place(self, rule, name, stretch, mantissa):
        """Check a place against what the document tells of it, by Python's own fractions."""
        turns, fold = rule.scale(name)
        with self.subTest(turns=turns, fold=fold, stretch=stretch, mantissa=mantissa):
            position = place(rule, name, stretch, mantissa)
            self.assertTrue(is_fraction(position))
            many = abs(turns)
            self.assertTrue(Fraction(stretch, many) <= exact(position) < Fraction(stretch + 1, many))
            beside = turns * exact(position) + exact(fold) - exact(mantissa)
            self.assertEqual(beside.denominator, 1)
            self.assertEqual(figure(rule, name, position), (beside.numerator, mantissa))

    def test_places(self):
        for turns, rule in FOLDED:
            for name, _, fold in rule.slide:
                for stretch in range(abs(turns)):
                    for mantissa in (*MANTISSAS, fold):
                        self.check_place(rule, name, stretch, mantissa)

    def test_at_random(self):
        chance = random.Random(8)
        for turns, rule in FOLDED:
            for name, _, _ in rule.slide:
                for _ in range(20):
                    self.check_place(rule, name, chance.randrange(abs(turns)), any_mantissa(chance, 40))

    def test_left_ends_of_stretches(self):
        for turns, rule in FOLDED:
            for name, _, fold in rule.slide:
                for stretch in range(abs(turns)):
                    self.assertEqual(place(rule, name, stretch, fold), pair(Fraction(stretch, abs(turns))))

    def test_some(self):
        rule = Rule((("F", 1, (1, 2)), ("G", -1, (1, 4)), ("H", -3, (1, 2))), ())
        self.assertEqual(place(rule, "F", 0, (1, 2)), (0, 1))
        self.assertEqual(place(rule, "F", 0, (0, 1)), (1, 2))
        self.assertEqual(place(rule, "F", 0, (1, 4)), (3, 4))
        self.assertEqual(place(rule, "G", 0, (1, 4)), (0, 1))
        self.assertEqual(place(rule, "G", 0, (0, 1)), (1, 4))
        self.assertEqual(place(rule, "G", 0, (1, 2)), (3, 4))
        self.assertEqual(place(rule, "H", 2, (1, 4)), (3, 4))
        self.assertEqual(place(rule, "H", 1, (3, 4)), (7, 12))

    def check_error(self, error, value, *arguments):
        with self.subTest(arguments=arguments[1:]):
            with self.assertRaises(error) as caught:
                place(*arguments)
            told = caught.exception
            self.assertIs(told.stretch if error is NoStretch else told.value, value)
            self.assertIsInstance(told, SlideError)

    def test_wrong_stretches(self):
        for turns, rule in FOLDED:
            for stretch in (-1, abs(turns), abs(turns) + 1, 3, DIGITS, -DIGITS, -turns - 5):
                self.check_error(NoStretch, stretch, rule, "A", stretch, (0, 1))
        for value in ANYTHING:
            if value not in (0, 1, 2) or isinstance(value, bool):
                self.check_error(NoStretch, value, Rule.common(), "K", value, (0, 1))
                self.check_error(NoStretch, value, Rule.common(), "D", value, (0, 1))

    def test_wrong_mantissas(self):
        rule = Rule.common()
        for value in (*NO_MANTISSAS, *ANYTHING):
            if value not in ((0, 1), (1, 2)):
                self.check_error(NoMantissa, value, rule, "D", 0, value)
                self.check_error(NoMantissa, value, rule, "CI", 0, value)

    def test_several_errors(self):
        rule = Rule.common()
        for name in ("E", None, ["D"]):
            self.assertRaises(NoScale, place, rule, name, 7, None)
            self.assertRaises(NoScale, place, rule, name, 0, None)
            self.assertRaises(NoScale, place, rule, name, None, (0, 1))
        self.check_error(NoStretch, 1, rule, "D", 1, None)
        self.check_error(NoStretch, True, rule, "A", True, (1, 1))


class FigureTest(unittest.TestCase):
    def check_figure(self, rule, name, position):
        turns, fold = rule.scale(name)
        with self.subTest(turns=turns, fold=fold, position=position):
            result = figure(rule, name, position)
            self.assertIs(type(result), tuple)
            decade, mantissa = result
            length = turns * exact(position) + exact(fold)
            self.assertIs(type(decade), int)
            self.assertEqual(decade, floor(length))
            self.assertEqual(mantissa, pair(length - floor(length)))
            self.assertTrue(is_fraction(mantissa))
            # Each position but the right end lies on one stretch, and the figure's place there is the position.
            if position != (1, 1):
                stretch = floor(exact(position) * abs(turns))
                self.assertEqual(place(rule, name, stretch, mantissa), position)

    def test_ends_and_bounds(self):
        for turns, rule in FOLDED:
            for name, _, fold in rule.slide:
                self.assertEqual(figure(rule, name, (0, 1)), (0, fold))
                self.assertEqual(figure(rule, name, (1, 1)), (turns, fold))
                for stretch in range(abs(turns) + 1):
                    self.check_figure(rule, name, pair(Fraction(stretch, abs(turns))))

    def test_at_random(self):
        chance = random.Random(7)
        for _, rule in FOLDED:
            for name, _, _ in rule.slide:
                for position in (*MANTISSAS, (1, 1)):
                    self.check_figure(rule, name, position)
                for _ in range(20):
                    self.check_figure(rule, name, any_mantissa(chance, 40))

    def test_some(self):
        rule = Rule((("F", 1, (1, 2)), ("G", -1, (1, 4)), ("H", -3, (1, 2))), ())
        self.assertEqual(figure(rule, "F", (1, 4)), (0, (3, 4)))
        self.assertEqual(figure(rule, "F", (1, 2)), (1, (0, 1)))
        self.assertEqual(figure(rule, "F", (1, 1)), (1, (1, 2)))
        self.assertEqual(figure(rule, "G", (1, 4)), (0, (0, 1)))
        self.assertEqual(figure(rule, "G", (1, 2)), (-1, (3, 4)))
        self.assertEqual(figure(rule, "H", (1, 1)), (-3, (1, 2)))

    def check_error(self, value, *arguments):
        with self.subTest(arguments=arguments[1:]):
            with self.assertRaises(NoPosition) as caught:
                figure(*arguments)
            self.assertIs(caught.exception.value, value)
            self.assertIsInstance(caught.exception, SlideError)

    def test_wrong_positions(self):
        rule = Rule.common()
        for value in (*NO_POSITIONS, *ANYTHING):
            if value not in ((0, 1), (1, 2)):
                self.check_error(value, rule, "A", value)
                self.check_error(value, rule, "CI", value)

    def test_several_errors(self):
        for name in ("E", None, ["D"]):
            self.assertRaises(NoScale, figure, Rule.common(), name, None)


if __name__ == "__main__":
    unittest.main()
