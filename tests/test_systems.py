"""Points [6] and [2] (b): conditions, points at which they hold, and papers that there are none."""

import inspect
import random
import unittest
from fractions import Fraction
from itertools import product

from offscale import systems
from offscale.errors import Missing
from offscale.forms import Form
from offscale.fractions import is_fraction
from offscale.systems import holds, never_holds, solve
from samples import ANYTHING, DIGITS, any_fraction, exact, pair

X = Form((("x", (1, 1)),))
Y = Form((("y", (1, 1)),))
ONE = Form((), (1, 1))


def linear(factors, constant):
    """A form in x, y, z from integers."""
    return Form(tuple((name, (factor, 1)) for name, factor in zip("xyz", factors)), (constant, 1))


def names_in(conditions):
    return sorted({name for form, _ in conditions for name in form.names})


def all_met(conditions, operands):
    """Whether the conditions hold, by Python's own fractions."""
    for form, strict in conditions:
        value = exact(form.constant) + sum(exact(factor) * exact(operands[name]) for name, factor in form.terms)
        if value < 0 or (strict and value == 0):
            return False
    return True


def is_paper(conditions, value):
    """Whether value is a paper of the conditions, by Python's own fractions."""
    if not isinstance(value, tuple) or len(value) != len(conditions):
        return False
    if any(type(share) is not int or share < 0 for share in value):
        return False
    for name in names_in(conditions):
        if sum(exact(form.factor(name)) * share for (form, _), share in zip(conditions, value)) != 0:
            return False
    constant = sum(exact(form.constant) * share for (form, _), share in zip(conditions, value))
    strictly = any(strict and share > 0 for (_, strict), share in zip(conditions, value))
    return constant < 0 or (constant == 0 and strictly)


def any_condition(chance, names, digits=1):
    terms = tuple((name, any_fraction(chance, digits)) for name in names if chance.random() < 0.8)
    return (Form(terms, any_fraction(chance, digits)), chance.random() < 0.4)


def any_conditions(chance, many, digits=1):
    names = "xyz"[:chance.randint(0, 3)]
    return tuple(any_condition(chance, names, digits) for _ in range(many))


def walls_through(chance, point, many, strict=0.0):
    """Conditions whose forms are all 0 at one point."""
    found = []
    for _ in range(many):
        form = Form(tuple((name, any_fraction(chance, 1)) for name in point))
        found.append((form - Form((), form(point)), chance.random() < strict))
    return tuple(found)


class SystemCase(unittest.TestCase):
    def setUp(self):
        self.chance = random.Random(6)

    def check_answer(self, conditions):
        """Check the answer of solve whichever it is, and return its word."""
        answer = solve(conditions)
        self.assertIs(type(answer), tuple)
        self.assertEqual(len(answer), 2)
        word, proof = answer
        if word == "point":
            self.assertIs(type(proof), dict)
            self.assertEqual(sorted(proof), names_in(conditions))
            self.assertTrue(all(is_fraction(value) for value in proof.values()))
            self.assertIs(holds(conditions, proof), True)
            self.assertTrue(all_met(conditions, proof))
        else:
            self.assertEqual(word, "never")
            self.assertIs(never_holds(conditions, proof), True)
            self.assertTrue(is_paper(conditions, proof))
        return word

    def check_word(self, conditions, word):
        with self.subTest(conditions=[(str(form), strict) for form, strict in conditions]):
            self.assertEqual(self.check_answer(conditions), word)


class InterfaceTest(SystemCase):
    def test_example(self):
        system = ((X, True), (-X, False))
        self.assertEqual(
            [
                solve(system)[0],
                never_holds(system, (1, 1)),
                never_holds(system, (2, 3)),
                solve(((X, False), (-X, False))),
            ],
            ["never", True, False, ("point", {"x": (0, 1)})],
        )

    def test_arguments(self):
        told = {
            "holds": "(conditions, operands)",
            "solve": "(conditions)",
            "never_holds": "(conditions, value)",
        }
        for name, arguments in told.items():
            function = getattr(systems, name)
            self.assertEqual(str(inspect.signature(function)), arguments)
            self.assertEqual(function.__module__, "offscale.systems")


class SolveTest(SystemCase):
    def test_no_conditions(self):
        self.assertEqual(solve(()), ("point", {}))

    def test_without_names(self):
        for constant, strict, word in (
            ((1, 2), True, "point"), ((1, 2), False, "point"),
            ((0, 1), True, "never"), ((0, 1), False, "point"),
            ((-1, 2), True, "never"), ((-1, 2), False, "never"),
        ):
            self.check_word(((Form((), constant), strict),), word)
            self.check_word(((X, True), (Form((), constant), strict), (Y, False)), word)
            self.check_word(((X, True), (Form((), constant), strict), (Y - X, False), (ONE - Y, True)), word)
        self.assertEqual(solve(((ONE, True),)), ("point", {}))

    def test_zero_factors_do_not_occur(self):
        conditions = ((Form((("x", (1, 1)), ("y", (0, 1))), (-1, 1)), False), (Form((("z", (0, 1)),)), False))
        word, operands = solve(conditions)
        self.assertEqual([word, list(operands)], ["point", ["x"]])

    def test_names_that_cancel_are_told(self):
        both = X + Y
        for conditions in (((both, False), (-both, False)), ((both - ONE, True),), ((both, True), (both + ONE, False))):
            self.check_word(conditions, "point")
        self.check_word(((both, True), (-both, False)), "never")
        self.check_word(((both, True), (ONE - both, True), (X - Y, False)), "point")

    def test_one_name(self):
        for low, high, first, second in product(range(-2, 3), range(-2, 3), (False, True), (False, True)):
            conditions = ((X - ONE * (low, 1), first), (ONE * (high, 1) - X, second))
            strictly = first or second
            self.check_word(conditions, "point" if low < high or (low == high and not strictly) else "never")
            self.check_word(conditions[::-1], "point" if low < high or (low == high and not strictly) else "never")

    def test_contrary_pairs(self):
        for _ in range(100):
            form, strict = any_condition(self.chance, "xyz")
            if form.terms:
                self.check_word(((form, False), (-form, False)), "point")
                self.check_word(((form, True), (-form, False)), "never")
                self.check_word(((-form, True), (form, True)), "never")
                self.check_word(((form, True), (Form((), (1, DIGITS)) - form, True)), "point")
                self.check_word(((form, strict), (Form((), (-1, DIGITS)) - form, False)), "never")

    def test_walls_through_one_point(self):
        for names in ("x", "xy", "xyz"):
            for _ in range(30):
                point = {name: any_fraction(self.chance) for name in names}
                many = self.chance.randint(1, 60)
                self.check_word(walls_through(self.chance, point, many), "point")
                self.check_answer(walls_through(self.chance, point, many, 0.1))
                self.check_answer(walls_through(self.chance, point, many, 1.0))

    def test_only_one_point(self):
        for _ in range(50):
            point = {name: any_fraction(self.chance) for name in "xyz"}
            walls = walls_through(self.chance, point, 20)
            both = (*walls, *[(-form, False) for form, _ in walls])
            names = {name for form, _ in walls for name in form.names}
            if len(names) == 3:
                self.assertEqual(solve(both), ("point", point))
                form = walls[0][0]
                self.check_word((*both, (form, True)), "never")
                self.check_word((*both, (form + Form((), (1, DIGITS)), True)), "point")
                self.check_word((*both, (form - Form((), (1, DIGITS)), False)), "never")

    def test_thin_ones(self):
        small = Form((), (1, 10 ** 39))
        inner = ((X, True), (small - X, True), (Y - X, True), (small - Y, True))
        self.check_word(inner, "point")
        self.check_word((*inner, (X - Y, False)), "never")
        self.check_word((*inner, (X - small, False)), "never")

    def test_corners(self):
        # All but the corners of a cube, each cut off by a wall that leaves just the corner or nothing.
        walls = []
        for name in "xyz":
            form = Form(((name, (1, 1)),))
            walls.extend([(form, False), (ONE - form, False)])
        for corner in product((0, 1), repeat=3):
            cut = linear([1 if at else -1 for at in corner], -sum(corner))
            told = {name: (at, 1) for name, at in zip("xyz", corner)}
            self.assertEqual(solve((*walls, (cut, False))), ("point", told))
            self.check_word((*walls, (cut, True)), "never")
            self.check_word((*walls, (cut + Form((), (1, 9)), True)), "point")

    def test_at_random(self):
        words = []
        for _ in range(600):
            words.append(self.check_answer(any_conditions(self.chance, self.chance.randint(0, 9))))
        self.assertGreater(min(words.count("point"), words.count("never")), 100)

    def test_small_integers(self):
        # Many of these meet in points, lines and walls, so that ties are frequent.
        words = []
        for _ in range(600):
            many = self.chance.randint(1, 12)
            rows = [[self.chance.randint(-1, 1) for _ in range(4)] for _ in range(many)]
            conditions = tuple((linear(row[:3], row[3]), self.chance.random() < 0.5) for row in rows)
            words.append(self.check_answer(conditions))
        self.assertGreater(min(words.count("point"), words.count("never")), 100)

    def test_around_a_point(self):
        for _ in range(60):
            point = {name: any_fraction(self.chance) for name in "xyz"}
            conditions = []
            for _ in range(60):
                form, strict = any_condition(self.chance, "xyz")
                value = exact(form(point))
                conditions.append((-form if value < 0 else form, strict and value != 0))
            self.check_word(tuple(conditions), "point")

    def test_sixty_with_long_fractions(self):
        for _ in range(4):
            self.check_answer(tuple(any_condition(self.chance, "xyz", 40) for _ in range(60)))
            point = {name: any_fraction(self.chance, 40) for name in "xyz"}
            conditions = []
            for _ in range(60):
                form, strict = any_condition(self.chance, "xyz", 40)
                conditions.append((-form if exact(form(point)) <= 0 else form, False))
            self.check_word(tuple(conditions), "point")
            rounds = [(linear([a, b, a * a + b * b], DIGITS + a), True) for a in range(-4, 4) for b in range(-4, 3)]
            self.check_answer(tuple(rounds))

    def test_somewhat_beyond_the_limits(self):
        for _ in range(10):
            conditions = tuple(any_condition(self.chance, ("a", "b", "c", "d", "e")) for _ in range(80))
            self.check_answer(conditions)
            self.check_answer(conditions[:8])

    def test_equal_calls(self):
        for _ in range(50):
            conditions = any_conditions(self.chance, 6)
            told = [(form.terms, form.constant, strict) for form, strict in conditions]
            first, second = solve(conditions), solve(conditions)
            self.assertEqual(first, second)
            if first[0] == "point":
                first[1].clear()
                first[1]["q"] = (1, 2)
                self.assertEqual(solve(conditions), second)
            again = tuple((Form(terms, constant), strict) for terms, constant, strict in told)
            self.assertEqual(solve(again), second)
            self.assertEqual([(form.terms, form.constant, strict) for form, strict in conditions], told)


class AlikeTest(SystemCase):
    def check_alike(self, conditions):
        word = self.check_answer(conditions)
        mixed = list(conditions)
        self.chance.shuffle(mixed)
        self.check_word(tuple(mixed), word)
        self.check_word(conditions[::-1], word)
        self.check_word(conditions + conditions, word)
        longer = []
        for form, strict in conditions:
            factor = (self.chance.randint(1, 10 ** 6), 1)
            longer.append((form * factor, strict))
            longer.append((form * pair(1 / exact(factor)), strict))
        self.check_word(tuple(longer), word)

    def test_at_random(self):
        for _ in range(100):
            self.check_alike(any_conditions(self.chance, self.chance.randint(0, 30)))

    def test_with_ties(self):
        for _ in range(100):
            rows = [[self.chance.randint(-1, 1) for _ in range(4)] for _ in range(self.chance.randint(1, 30))]
            self.check_alike(tuple((linear(row[:3], row[3]), self.chance.random() < 0.2) for row in rows))


class PaperTest(SystemCase):
    def papers(self):
        """Conditions that never hold, each with the paper that solve returns."""
        found = []
        while len(found) < 60:
            conditions = any_conditions(self.chance, self.chance.randint(1, 10))
            word, proof = solve(conditions)
            if word == "never":
                found.append((conditions, proof))
        return found

    def check_value(self, conditions, value):
        with self.subTest(conditions=[(str(form), strict) for form, strict in conditions], value=value):
            self.assertIs(never_holds(conditions, value), is_paper(conditions, value))

    def check_not(self, conditions, value):
        with self.subTest(conditions=[(str(form), strict) for form, strict in conditions], value=value):
            self.assertIs(never_holds(conditions, value), False)

    def test_one_integer_changed(self):
        for conditions, paper in self.papers():
            for at, share in enumerate(paper):
                for other in (0, 1, share + 1, share - 1, 2 * share, DIGITS):
                    self.check_value(conditions, (*paper[:at], other, *paper[at + 1:]))

    def test_below_zero(self):
        for conditions, paper in self.papers():
            self.check_not(conditions, tuple(-share for share in paper))
            for at in range(len(paper)):
                self.check_not(conditions, (*paper[:at], -1, *paper[at + 1:]))
                self.check_not(conditions, (*paper[:at], -DIGITS, *paper[at + 1:]))
        # The sums are right here, and only the sign of one integer is not.
        self.check_not(((X, True), (X - ONE, False)), (1, -1))
        self.check_not(((ONE, False), (ONE * (2, 1), False)), (1, -1))
        self.check_not(((ONE, True), (Form(), True)), (-1, 0))

    def test_other_kinds(self):
        for conditions, paper in self.papers()[:20]:
            self.check_not(conditions, list(paper))
            self.check_not(conditions, dict(enumerate(paper)))
            self.check_not(conditions, (paper,))
            for value in ANYTHING:
                self.check_value(conditions, value)
                if type(value) is not int:
                    for at in range(len(paper)):
                        self.check_not(conditions, (*paper[:at], value, *paper[at + 1:]))

    def test_bools(self):
        system = ((X, True), (-X, False))
        self.check_value(system, (1, 1))
        for value in ((True, 1), (1, True), (True, True), (True, False)):
            self.check_not(system, value)
        self.check_not(((Form((), (-1, 1)), False), (X, True)), (1, False))

    def test_other_lengths(self):
        for conditions, paper in self.papers():
            self.check_not(conditions, ())
            self.check_not(conditions, paper[:-1])
            self.check_not(conditions, (*paper, 0))
            self.check_not(conditions, (*paper, 1))
            self.check_not(conditions, paper + paper)

    def test_times_and_sums(self):
        for conditions, paper in self.papers():
            self.assertTrue(never_holds(conditions, tuple(DIGITS * share for share in paper)))
            self.assertTrue(never_holds(conditions + conditions, paper + paper))
            self.assertTrue(never_holds(conditions[::-1], paper[::-1]))

    def test_the_edge(self):
        # What the sums come to decides: below 0, or 0 with a strict condition that counts.
        for constant, strict, word in (
            ((-1, 9), False, True), ((-1, 9), True, True), ((0, 1), True, True), ((0, 1), False, False),
            ((1, 9), True, False), ((1, 9), False, False),
        ):
            system = ((X, False), (Form((), constant) - X, strict))
            self.assertIs(never_holds(system, (1, 1)), word)
            self.assertIs(never_holds(system, (3, 3)), word)
            self.assertIs(never_holds(system, (1, 2)), False)
            self.assertIs(never_holds(system, (0, 0)), False)
            self.assertIs(never_holds((*system, (Y, True)), (1, 1, 0)), word)

    def test_a_strict_one_that_does_not_count(self):
        system = ((X, False), (-X, False), (Y, True))
        self.check_not(system, (1, 1, 0))
        self.check_not(system, (0, 0, 0))
        self.check_not(system, (1, 1, 1))

    def test_no_conditions(self):
        for value in ANYTHING:
            self.check_not((), value)

    def test_where_a_point_is(self):
        for _ in range(60):
            conditions = any_conditions(self.chance, 4)
            if solve(conditions)[0] == "point":
                for value in product(range(3), repeat=4):
                    self.check_not(conditions, value)

    def test_papers_beyond_forty_digits(self):
        conditions = tuple(any_condition(self.chance, "xyz", 40) for _ in range(30))
        word, paper = solve((*conditions, (X, True), (-X, True)))
        self.assertEqual(word, "never")
        self.assertTrue(never_holds((*conditions, (X, True), (-X, True)), paper))


class HoldsTest(SystemCase):
    def test_at_random(self):
        answers = []
        for _ in range(500):
            conditions = any_conditions(self.chance, self.chance.randint(0, 3))
            operands = {name: any_fraction(self.chance, 1) for name in ("x", "y", "z", "q")}
            answer = holds(conditions, operands)
            self.assertIs(answer, all_met(conditions, operands))
            answers.append(answer)
        self.assertGreater(min(answers.count(True), answers.count(False)), 50)

    def test_the_edge(self):
        small = (1, DIGITS)
        for value, strict, answer in (
            ((0, 1), False, True), ((0, 1), True, False), (small, False, True), (small, True, True),
            ((-1, DIGITS), False, False), ((-1, DIGITS), True, False),
        ):
            self.assertIs(holds(((X, strict),), {"x": value}), answer)
            self.assertIs(holds(((ONE, True), (X, strict), (Y, False)), {"x": value, "y": (1, 1)}), answer)
            self.assertIs(holds(((Form((), value), strict),), {}), answer)

    def test_no_conditions(self):
        self.assertIs(holds((), {}), True)
        self.assertIs(holds((), {"x": (1, 2)}), True)

    def test_further_operands(self):
        self.assertIs(holds(((X, True),), {"x": (1, 2), "y": (-1, 2)}), True)
        self.assertIs(holds(((Form((("x", (1, 1)), ("y", (0, 1)))), True),), {"x": (1, 2)}), True)

    def test_missing(self):
        z = Form((("z", (1, 1)),))
        system = ((z, False), (Y - X, True), (X, False))
        full = {"x": (1, 2), "y": (1, 1), "z": (1, 1)}
        self.assertIs(holds(system, full), True)
        for names in ("x", "y", "z", "xy", "xz", "yz", "xyz"):
            operands = {name: value for name, value in full.items() if name not in names}
            for conditions in (system, system[::-1]):
                with self.assertRaises(Missing) as caught:
                    holds(conditions, operands)
                self.assertEqual(caught.exception.name, names[0])

    def test_missing_behind_one_that_does_not_hold(self):
        system = ((-ONE, False), (Y, True), (X, True))
        with self.assertRaises(Missing) as caught:
            holds(system, {})
        self.assertEqual(caught.exception.name, "x")
        with self.assertRaises(Missing) as caught:
            holds(system, {"x": (-1, 1)})
        self.assertEqual(caught.exception.name, "y")

    def test_operands_are_not_changed(self):
        operands = {"y": (1, 2), "x": (1, 3), "q": (5, 1)}
        before = list(operands.items())
        holds(((X, True), (Y - X, False)), operands)
        self.assertEqual(list(operands.items()), before)


class OracleTest(SystemCase):
    """The answers against another way to decide: names are taken out one by one."""

    def eliminate(self, rows, column):
        """Rows of Python's own fractions without this column: each that lifts it beside each that lowers it."""
        kept = [row for row in rows if row[0][column] == 0]
        for one, first in rows:
            for other, second in rows:
                if one[column] > 0 > other[column]:
                    sums = [a * -other[column] + b * one[column] for a, b in zip(one, other)]
                    kept.append((sums, first or second))
        return kept

    def is_met_somewhere(self, conditions):
        rows = []
        for form, strict in conditions:
            rows.append(([*[exact(form.factor(name)) for name in "xyz"], exact(form.constant)], strict))
        for column in range(3):
            rows = self.eliminate(rows, column)
        return all(row[3] > 0 or (row[3] == 0 and not strict) for row, strict in rows)

    def test_at_random(self):
        for _ in range(200):
            conditions = any_conditions(self.chance, self.chance.randint(0, 6))
            self.check_word(conditions, "point" if self.is_met_somewhere(conditions) else "never")

    def test_with_ties(self):
        for _ in range(200):
            rows = [[self.chance.randint(-1, 1) for _ in range(4)] for _ in range(self.chance.randint(1, 7))]
            conditions = tuple((linear(row[:3], row[3]), self.chance.random() < 0.4) for row in rows)
            self.check_word(conditions, "point" if self.is_met_somewhere(conditions) else "never")


class ExactTest(unittest.TestCase):
    def test_helpers(self):
        # The tests above lean on these two; so look at them once by hand.
        system = ((X, True), (-X, False))
        self.assertTrue(is_paper(system, (1, 1)))
        self.assertFalse(is_paper(system, (1, 2)))
        self.assertFalse(all_met(system, {"x": (0, 1)}))
        self.assertEqual(pair(Fraction(2, 4)), (1, 2))


if __name__ == "__main__":
    unittest.main()
