"""Points [15], [2] (c) and [2] (d): carries, features, books, and papers that there is no right book."""

import inspect
import random
import time
import unittest
from fractions import Fraction
from itertools import product
from math import floor

from offscale import points
from offscale.bounds import MAX_FEATURES, MAX_OPERANDS
from offscale.claims import wish_error
from offscale.errors import BadBook, BadFeatures, BadWish, BadWorking, Misfit, Missing, NoMantissa, Off, TooMany
from offscale.points import book_fails, carry, paper_holds, right_books, tally
from offscale.rules import Rule
from offscale.sheets import sheet
from offscale.steps import misfit, operands_of, working_error
from samples import ANYTHING, DIGITS, exact, pair
from workings import (
    BOTH, CHAIN, COMMON, LINE_READS, PRODUCT, READ, TRIES, WIDE, Play, any_operands, any_rule, any_wish, any_working,
    even_operands, features_of, odd_operands, wish_sum,
)

MULTIPLY = (1, (("x", 1), ("y", 1)), (0, 1))
SEEN = (("left", 4), ("decade", 6))
AT = {"x": (3, 4), "y": (1, 2)}
OFF = (("slide", "C", 0, "right"), ("line", "C", 0, "left"), READ)


class PointCase(unittest.TestCase):
    def setUp(self):
        self.chance = random.Random(15)

    def check_error(self, call, kind, **wanted):
        with self.assertRaises(kind) as caught:
            call()
        self.assertIs(type(caught.exception), kind)
        self.assertEqual(vars(caught.exception), wanted)

    def own_tally(self, play, features, book):
        return book[0] + sum(weight * play.feature(*feature) for weight, feature in zip(book[1:], features))

    def own_paper(self, rule, steps, wish, features, value):
        """Whether the sums of a paper are as told; its pairs are right by themselves."""
        sums = [Fraction(0)] * (len(features) + 2)
        for operands, share in value:
            play = Play(rule, steps, operands)
            if play.off is not None:
                return False
            row = [1, *[play.feature(*feature) for feature in features], floor(wish_sum(wish, operands))]
            sums = [one + exact(share) * other for one, other in zip(sums, row)]
        return all(one.denominator == 1 for one in sums[:-1]) and sums[-1].denominator != 1

    def names_of(self, steps, wish):
        return sorted({*operands_of(steps), *[name for name, _ in wish[1]]})

    def check_book(self, rule, steps, wish, features, book, many=5):
        """Check the answer of book_fails, and return whether the book is right."""
        answer = book_fails(rule, steps, wish, features, book)
        names = self.names_of(steps, wish)
        if answer is None:
            forms = [form for cell in sheet(rule, steps, signs=True) for form, _ in cell.conditions]
            for _ in range(many):
                operands = any_operands(self.chance, names, forms)
                play = Play(rule, steps, operands)
                if play.off is None:
                    self.assertEqual(self.own_tally(play, features, book), floor(wish_sum(wish, operands)))
        else:
            self.assertEqual((type(answer), sorted(answer)), (dict, names))
            play = Play(rule, steps, answer)
            self.assertIsNone(play.off)
            told = self.own_tally(play, features, book)
            self.assertNotEqual(told, floor(wish_sum(wish, answer)))
            self.assertEqual(tally(rule, steps, features, book, answer), told)
            self.assertEqual(carry(wish, answer), floor(wish_sum(wish, answer)))
        return answer is None

    def check_books(self, rule, steps, wish, features):
        """Check the answer of right_books, and return it."""
        answer = right_books(rule, steps, wish, features)
        self.assertIs(type(answer), tuple)
        if answer[0] == "books":
            _, book, basis = answer
            self.assertIs(type(basis), tuple)
            for one in (book, *basis):
                self.assertEqual((type(one), len(one)), (tuple, len(features) + 1))
                self.assertEqual({type(item) for item in one}, {int})
            self.assertTrue(self.check_book(rule, steps, wish, features, book))
            for one in basis:
                many = self.chance.choice((1, -1, 5))
                other = tuple(item + many * more for item, more in zip(book, one))
                self.assertTrue(self.check_book(rule, steps, wish, features, other, 2))
        else:
            word, paper = answer
            self.assertEqual((word, type(paper)), ("none", tuple))
            for operands, share in paper:
                self.assertEqual(sorted(operands), self.names_of(steps, wish))
            self.assertTrue(self.own_paper(rule, steps, wish, features, paper))
            self.assertIs(paper_holds(rule, steps, wish, features, paper), True)
            for _ in range(3):
                book = tuple(self.chance.randint(-2, 2) for _ in range(len(features) + 1))
                self.assertFalse(self.check_book(rule, steps, wish, features, book, 0))
        return answer


class InterfaceTest(PointCase):
    def test_example(self):
        self.assertEqual(
            [
                carry(MULTIPLY, AT), tally(COMMON, BOTH, SEEN, (0, 1, 1), AT),
                book_fails(COMMON, BOTH, MULTIPLY, SEEN, (0, 1, 1)), right_books(COMMON, BOTH, MULTIPLY, SEEN),
                right_books(COMMON, BOTH, MULTIPLY, SEEN[:1])[0],
            ],
            [1, 1, None, ("books", (0, 1, 1), ()), "none"],
        )

    def test_arguments(self):
        told = {
            "carry": "(wish, operands)", "tally": "(rule, steps, features, book, operands)",
            "book_fails": "(rule, steps, wish, features, book)", "right_books": "(rule, steps, wish, features)",
            "paper_holds": "(rule, steps, wish, features, value)",
        }
        for name, arguments in told.items():
            self.assertEqual(str(inspect.signature(getattr(points, name))), arguments)
            self.assertEqual(getattr(points, name).__module__, "offscale.points")


class CarryTest(PointCase):
    def test_some(self):
        for x, y, wanted in (((1, 2), (1, 2), 1), ((1, 2), (499, 1000), 0), ((0, 1), (0, 1), 0), ((7, 8), (7, 8), 1)):
            self.assertEqual(carry(MULTIPLY, {"x": x, "y": y}), wanted)
            self.assertEqual(carry((1, (("x", 1), ("y", -1)), (0, 1)), {"x": x, "y": y}), floor(exact(x) - exact(y)))
        self.assertEqual(carry((1, (), (3, 4)), {}), 0)
        self.assertEqual(carry((1, (("x", -3),), (1, 4)), {"x": (3, 4), "y": None}), -2)

    def test_at_random(self):
        for _ in range(200):
            wish = any_wish(self.chance, "xyz", 1)
            operands = any_operands(self.chance, "xyz")
            self.assertIs(type(carry(wish, operands)), int)
            self.assertEqual(carry(wish, operands), floor(wish_sum(wish, operands)))

    def test_errors(self):
        for value in (*ANYTHING, (1, (("x", 1),), (1, 1)), (0, (), (0, 1)), (1, (("y", 1), ("x", 1)), (0, 1))):
            self.check_error(lambda: carry(value, AT), BadWish, word=wish_error(value))
        for times in (2, 3):
            self.check_error(lambda: carry((times, *MULTIPLY[1:]), AT), BadWish, word="times")
            self.check_error(lambda: carry((times, None, None), AT), BadWish, word="factors")
            self.check_error(lambda: carry((times, (), None), AT), BadWish, word="constant")


class TallyTest(PointCase):
    def test_at_random(self):
        found = {}
        for _ in range(200):
            rule = any_rule(self.chance)
            steps = any_working(self.chance, rule, self.chance.randint(2, 10))
            known = features_of(steps)
            features = tuple(self.chance.sample(known, min(len(known), self.chance.randint(0, 6))))
            book = tuple(self.chance.randint(-9, 9) for _ in range(len(features) + 1))
            for _ in range(3):
                operands = any_operands(self.chance, operands_of(steps))
                play = Play(rule, steps, operands)
                if play.off is not None:
                    self.check_error(lambda: tally(rule, steps, features, book, operands), Off, number=play.off)
                else:
                    self.assertEqual(tally(rule, steps, features, book, operands), self.own_tally(play, features, book))
                    for word, number in features:
                        key = (word, number in play.seen, play.feature(word, number))
                        found[key] = found.get(key, 0) + 1
        for key in (
            ("left", True, 0), ("left", True, 1), ("right", True, 0), ("right", True, 1), ("decade", True, -1),
            ("decade", True, 0), ("decade", True, 2), ("left", False, 0), ("right", False, 0), ("decade", False, 0),
        ):
            self.assertGreater(found.get(key, 0), 3, key)

    def test_each_feature(self):
        steps = (("line", "D", 0, "x"), ("slide", "C", 0, "y"), ("read", "K", "out"))
        features = (("left", 1), ("right", 1), ("decade", 2))
        for x, y, told in (
            ((1, 2), (1, 4), (0, 1, 1)), ((1, 4), (1, 2), (1, 0, 0)), ((2, 3), (2, 3), (0, 0, 2)),
            ((0, 1), (0, 1), (0, 0, 0)),
        ):
            for at, value in enumerate(told):
                self.assertEqual(tally(COMMON, steps, features[at:at + 1], (5, 3), {"x": x, "y": y}), 5 + 3 * value)
            wanted = told[0] + 10 * told[1] + 100 * told[2]
            self.assertEqual(tally(COMMON, steps, features, (0, 1, 10, 100), {"x": x, "y": y}), wanted)

    def test_parts_that_do_not_stand(self):
        # The first part draws the slide to the right and reads, and is given up; the second one does not slide.
        first = (("slide", "C", 0, "left"), ("read", "A", "n"), ("line", "C", 0, "right"))
        steps = (("line", "D", 0, "x"), ("try", first, (("line", "D", 0, "y"),)), ("read", "K", "out"))
        features = (("right", 2), ("left", 2), ("decade", 3), ("decade", 6))
        self.assertEqual(tally(COMMON, steps, features, (0, 1, 1, 1, 10), {"x": (3, 4), "y": (1, 2)}), 10)
        self.assertEqual(tally(COMMON, steps, features, (0, 1, 1, 1, 10), {"x": (0, 1), "y": (1, 2)}), 30)

    def test_no_features(self):
        self.assertEqual(tally(COMMON, BOTH, (), (7,), AT), 7)
        self.assertEqual(tally(COMMON, BOTH, (), (-DIGITS,), AT), -DIGITS)


class BookTest(PointCase):
    def test_right_and_changed_by_one(self):
        right = (0, 1, 1)
        self.assertTrue(self.check_book(COMMON, BOTH, MULTIPLY, SEEN, right, 50))
        for at, change in product(range(3), (-1, 1)):
            book = tuple(item + change if k == at else item for k, item in enumerate(right))
            self.assertFalse(self.check_book(COMMON, BOTH, MULTIPLY, SEEN, book))

    def test_fails_just_on_one_line(self):
        # The reading is 1/2 and not 0 only where x and y are the same; there the hairline has gone to the middle.
        steps = (*LINE_READS[:-1], ("read", "A", "out"))
        wish, features = (1, (), (0, 1)), (("decade", 7),)
        self.assertEqual(right_books(COMMON, steps, wish, features), ("books", (0, 0), ()))
        answer = book_fails(COMMON, steps, wish, features, (0, 1))
        self.assertEqual(answer["x"], answer["y"])
        self.assertFalse(self.check_book(COMMON, steps, wish, features, (0, 1)))

    def test_just_at_the_end(self):
        # Where x and y come to 1 the slide is not drawn out to the left, but the decade is 1.
        answer = book_fails(COMMON, BOTH, MULTIPLY, SEEN, (0, 1, 0))
        self.assertEqual(exact(answer["x"]) + exact(answer["y"]), 1)

    def test_names_that_are_no_operands(self):
        steps = (("line", "D", 0, "x"), READ)
        self.assertFalse(self.check_book(COMMON, steps, (1, (("q", 1), ("x", 1)), (0, 1)), (), (0,)))
        self.assertFalse(self.check_book(COMMON, steps, (1, (("out", 2),), (0, 1)), (("decade", 1),), (0, 1)))
        self.assertTrue(self.check_book(COMMON, steps, (1, (("out", 1),), (0, 1)), (("decade", 1),), (0, 1)))

    def test_no_run_reads(self):
        for wish in (MULTIPLY, (1, (("q", 3),), (1, 2))):
            for book in ((0,), (5,), (-DIGITS,)):
                self.assertIsNone(book_fails(COMMON, OFF, wish, (), book))
            self.assertEqual(right_books(COMMON, OFF, wish, ())[0], "books")

    def test_equal_calls(self):
        first = book_fails(COMMON, BOTH, MULTIPLY, SEEN, (1, 1, 1))
        kept = dict(first)
        first.clear()
        self.assertEqual(book_fails(COMMON, BOTH, MULTIPLY, SEEN, (1, 1, 1)), kept)


class RightBooksTest(PointCase):
    def test_enough_and_not_enough(self):
        self.assertEqual(self.check_books(COMMON, BOTH, MULTIPLY, SEEN), ("books", (0, 1, 1), ()))
        self.assertEqual(self.check_books(COMMON, BOTH, MULTIPLY, SEEN[::-1]), ("books", (0, 1, 1), ()))
        for features in ((), SEEN[:1], SEEN[1:], (("right", 2), ("decade", 6))):
            self.assertEqual(self.check_books(COMMON, BOTH, MULTIPLY, features)[0], "none")
        # Where x is 1 the slide stays at home, so to the right says less than to the left.
        features = (("right", 2), ("left", 4), ("decade", 6))
        self.assertEqual(self.check_books(COMMON, BOTH, MULTIPLY, features)[0], "books")

    def test_powers(self):
        for scale, factor in (("A", 2), ("K", 3)):
            steps = (("line", "D", 0, "x"), ("read", scale, "out"))
            wish = (1, (("x", factor),), (0, 1))
            self.assertEqual(self.check_books(COMMON, steps, wish, (("decade", 1),)), ("books", (0, 1), ()))
            self.assertEqual(self.check_books(COMMON, steps, wish, ())[0], "none")

    def test_values_that_hang_together(self):
        reads = [("read", "A", name) for name in ("n", "m", "o")]
        steps = (("line", "D", 0, "x"), *reads[:2], ("slide", "C", 0, "left"), reads[2])
        features = (("decade", 1), ("decade", 2), ("left", 3), ("decade", 4))
        word, book, basis = self.check_books(COMMON, steps, (1, (("x", 2),), (0, 1)), features)
        self.assertEqual((word, len(basis)), ("books", 3))
        self.assertEqual(book[0], 0)
        self.assertEqual(book[1] + book[2] + book[4], 1)

    def test_all_books_are_right(self):
        features = (("left", 0), ("right", 0), ("decade", 2))
        answer = self.check_books(COMMON, OFF, MULTIPLY, features)
        self.assertEqual((answer[0], len(answer[2])), ("books", 4))
        # Each way to take the told book and the basis apart is the only one: they are the unit books, or as good.
        for wanted in product((-1, 0, 2), repeat=4):
            self.assertIsNone(book_fails(COMMON, OFF, MULTIPLY, features, wanted))
        self.assertEqual(abs(self.determinant(answer[2])), 1)

    def determinant(self, rows):
        if len(rows) == 0:
            return 1
        minors = [[row[:at] + row[at + 1:] for row in rows[1:]] for at in range(len(rows))]
        return sum((-1) ** at * rows[0][at] * self.determinant(minor) for at, minor in enumerate(minors))

    def test_a_wish_that_is_not_met(self):
        # What is read does not count, only what is seen.
        self.assertEqual(self.check_books(COMMON, BOTH, (1, (), (1, 2)), SEEN), ("books", (0, 0, 0), ()))
        self.assertEqual(self.check_books(COMMON, BOTH, (1, (("x", 1), ("y", 2)), (0, 1)), SEEN)[0], "none")

    def test_half_a_carry(self):
        # The decade is 0 where x is at least y, and 2 elsewhere, so its weight would have to be half of -1.
        steps = (
            ("line", "D", 0, "x"), ("slide", "C", 0, "y"),
            ("try", (("line", "C", 0, "left"), ("line", "K", 0, (1, 2))), (("line", "K", 2, (1, 2)),)),
            ("read", "K", "out"),
        )
        wish, features = (1, (("x", 1), ("y", -1)), (0, 1)), (("decade", 6), ("left", 1))
        word, paper = self.check_books(COMMON, steps, wish, features[:1])
        self.assertEqual((word, sorted(share for _, share in paper)), ("none", [(-1, 2), (1, 2)]))
        self.assertEqual(self.check_books(COMMON, steps, wish, features)[0], "books")

    def test_at_random(self):
        words = []
        for _ in range(200):
            rule = any_rule(self.chance)
            names = "xyz"[:self.chance.randint(1, 3)]
            steps = any_working(self.chance, rule, self.chance.randint(2, 9), names)
            known = features_of(steps)
            features = tuple(self.chance.sample(known, min(len(known), self.chance.randint(0, 6))))
            wish = any_wish(self.chance, names, 1)
            answer = self.check_books(rule, steps, wish, features)
            words.append(answer[0])
            if answer[0] == "books":
                self.check_no_others(rule, steps, wish, features, answer)
        self.assertGreater(min(words.count("books"), words.count("none")), 40)

    def check_no_others(self, rule, steps, wish, features, answer):
        """A book that is not among the sums fails: the differences are solved in integers one by one."""
        _, book, basis = answer
        for _ in range(3):
            other = tuple(item + self.chance.choice((0, 0, 1, -1)) for item in book)
            right = self.check_book(rule, steps, wish, features, other, 0)
            self.assertIs(right, self.is_sum(basis, [one - item for one, item in zip(other, book)]))

    def is_sum(self, basis, wanted):
        """Whether integer multiples of the basis come to what is wanted, in one way only."""
        rows = [[Fraction(one) for one in row] + [Fraction(last)] for *row, last in zip(*basis, wanted)]
        pivots = 0
        for column in range(len(basis)):
            chosen = [row for row in rows[pivots:] if row[column] != 0]
            self.assertTrue(chosen, "the basis is larger than need be")
            pivot = [one / chosen[0][column] for one in chosen[0]]
            others = [row for row in rows if row is not chosen[0]]
            rows = [[a - row[column] * b for a, b in zip(row, pivot)] for row in others]
            rows.insert(pivots, pivot)
            pivots += 1
        return all(row[-1] == 0 for row in rows[pivots:]) and all(row[-1].denominator == 1 for row in rows[:pivots])

    def test_large_ones(self):
        start = time.monotonic()
        for steps in (CHAIN, TRIES):
            features = tuple(features_of(steps)[:MAX_FEATURES])
            for factors in ((("x", 3), ("y", 3), ("z", -3)), (("x", 1),), ()):
                self.check_books(WIDE, steps, (1, factors, (0, 1)), features)
        self.assertLess(time.monotonic() - start, 60)

    def test_equal_calls(self):
        for features in (SEEN, SEEN[:1]):
            first = right_books(COMMON, BOTH, MULTIPLY, features)
            self.assertEqual(first, right_books(COMMON, BOTH, MULTIPLY, features))
        first[1][0][0].clear()
        self.assertTrue(paper_holds(COMMON, BOTH, MULTIPLY, SEEN[:1], right_books(COMMON, BOTH, MULTIPLY, SEEN[:1])[1]))


class PaperTest(PointCase):
    def check_paper(self, value, answer, features=SEEN[:1], steps=BOTH, wish=MULTIPLY):
        with self.subTest(value=value):
            self.assertIs(paper_holds(COMMON, steps, wish, features, value), answer)

    def setUp(self):
        PointCase.setUp(self)
        self.paper = right_books(COMMON, BOTH, MULTIPLY, SEEN[:1])[1]

    def test_whoever_made_it(self):
        # Both runs draw the slide out to the right only, and the carries differ by one.
        one, other = {"x": (1, 2), "y": (1, 2)}, {"x": (1, 2), "y": (1, 4)}
        self.check_paper(((one, (1, 2)), (other, (-1, 2))), True)
        self.check_paper(((one, (1, 3)), (other, (-1, 3))), True)
        self.check_paper(((one, (1, 3)), (other, (2, 3))), True)
        self.check_paper(((one, (1, 3)), (other, (1, 3))), False)
        self.check_paper(((one, (1, 1)), (other, (-1, 1))), False)
        self.check_paper(((one, (1, 2)),), False)
        # Pairs may have equal operands, and shares may be zero.
        self.check_paper(((one, (1, 4)), (one, (1, 4)), (other, (-1, 2)), (AT, (0, 1))), True)
        self.check_paper(((one, (1, 4)), (one, (-1, 4))), False)
        # The decade tells these runs from each other.
        self.check_paper(((one, (1, 2)), (other, (-1, 2))), False, SEEN)
        self.check_paper((), False)

    def test_operands_where_it_goes_off(self):
        off = {"x": (3, 4), "y": (1, 2)}
        one, other = {"x": (1, 2), "y": (1, 2)}, {"x": (1, 2), "y": (1, 4)}
        self.check_paper(((one, (1, 2)), (other, (-1, 2))), True, (), PRODUCT)
        self.check_paper(((one, (1, 2)), (other, (-1, 2)), (off, (1, 1))), False, (), PRODUCT)
        self.check_paper(((one, (1, 2)), (other, (-1, 2)), (off, (0, 1))), False, (), PRODUCT)

    def test_whatever_else_stands_in_the_operands(self):
        value = tuple(({**operands, "q": None, 5: [], "out": "x", (1, 2): 3}, share) for operands, share in self.paper)
        self.check_paper(value, True)

    def test_parts_replaced(self):
        for at, (operands, share) in enumerate(self.paper):
            for value in ANYTHING:
                for pair_ in (value, (value, share), (operands, value), (operands, share, value), (operands,)):
                    if repr(pair_) not in [repr((operands, (top, 2))) for top in (1, 3, -1, -3)]:
                        self.check_paper((*self.paper[:at], pair_, *self.paper[at + 1:]), False)
                for name in ("x", "y"):
                    if not (type(value) is tuple and repr(value) in ("(0, 1)", "(1, 2)")):
                        changed = ({**operands, name: value}, share)
                        self.check_paper((*self.paper[:at], changed, *self.paper[at + 1:]), False)
            for name in ("x", "y"):
                less = {other: value for other, value in operands.items() if other != name}
                self.check_paper((*self.paper[:at], (less, share), *self.paper[at + 1:]), False)

    def test_put_in_doubled_taken_out(self):
        more = {"x": (1, 8), "y": (1, 8)}
        for at, pair_ in enumerate(self.paper):
            for value in (
                self.paper[:at] + self.paper[at + 1:], (*self.paper[:at], pair_, *self.paper[at:]),
                (*self.paper, (more, (1, 1))), (*self.paper, (more, (1, 2))), self.paper[::-1], self.paper * 2,
                self.paper * 3,
            ):
                self.check_paper(value, self.own_paper(COMMON, BOTH, MULTIPLY, SEEN[:1], value))

    def test_other_values(self):
        for value in (*ANYTHING, list(self.paper), dict(enumerate(self.paper)), [list(row) for row in self.paper]):
            self.check_paper(value, False)
        self.check_paper(tuple([list(row) for row in self.paper]), False)

    def test_shares_that_are_no_fractions(self):
        (one, _), (other, _) = self.paper
        for share in ((2, 4), (1, -2), (True, 2), [1, 2], 1, None, "1/2", (1, 2, 3), (1,), (0.5, 1), (1, 0)):
            self.check_paper(((one, share), (other, (-1, 2))), False)

    def test_at_random(self):
        found = []
        for _ in range(300):
            rule = any_rule(self.chance)
            names = "xyz"[:self.chance.randint(1, 3)]
            steps = any_working(self.chance, rule, self.chance.randint(2, 7), names)
            known = features_of(steps)
            features = tuple(self.chance.sample(known, min(len(known), self.chance.randint(0, 1))))
            wish = any_wish(self.chance, names, 1)
            make = self.chance.choice((even_operands, odd_operands))
            rows = [make(self.chance, self.names_of(steps, wish)) for _ in range(self.chance.randint(1, 3))]
            value = tuple((row, pair(Fraction(self.chance.randint(-3, 3), 2))) for row in rows)
            answer = paper_holds(rule, steps, wish, features, value)
            self.assertIs(answer, self.own_paper(rule, steps, wish, features, value))
            found.append(answer)
            if answer:
                self.assertEqual(right_books(rule, steps, wish, features)[0], "none")
        self.assertGreater(found.count(True), 5)

    def test_nothing_is_changed(self):
        operands = {"x": (1, 2), "y": (1, 2), "q": [1]}
        value = ((operands, (1, 2)),)
        paper_holds(COMMON, BOTH, MULTIPLY, (), value)
        self.assertEqual(list(operands.items()), [("x", (1, 2)), ("y", (1, 2)), ("q", [1])])


class ErrorTest(PointCase):
    full = {"steps": BOTH, "wish": MULTIPLY, "features": SEEN, "book": (0, 1, 1)}

    def calls(self, **changed):
        """The three calls that have a rule, a working, a wish and features."""
        told = {**self.full, **changed}
        rest = (COMMON, told["steps"], told["wish"], told["features"])
        book = told["book"]
        return lambda: book_fails(*rest, book), lambda: right_books(*rest), lambda: paper_holds(*rest, book)

    def tally(self, operands=AT, **changed):
        told = {**self.full, **changed}
        return lambda: tally(COMMON, told["steps"], told["features"], told["book"], operands)

    def check_all(self, kind, changed, **wanted):
        for call in self.calls(**changed):
            self.check_error(call, kind, **wanted)

    bad_features = (
        *[(value, None) for value in (None, 1, "x", [], list(SEEN), {}, SEEN * 3 + SEEN[:1], ((),) * 7)],
        ((None,), 0), (("left",), 0), ((("left", 0),), 0), ((("left", 6),), 0), ((("decade", 4),), 0),
        ((("left", -1),), 0), ((("left", 7),), 0), ((("left", True),), 0), ((("left", (4, 1)),), 0),
        ((("up", 4),), 0), ((["left", 4],), 0),
        ((("left", 4, 4),), 0), ((("slide", 4),), 0), (((None, 4),), 0), ((([], 4),), 0), ((("left", [])), 0),
        ((("left", 3),), 0), ((("left", 1),), 0), ((("left", "4"),), 0), ((("left", None),), 0), (((), ), 0),
        ((*SEEN, SEEN[0]), 2), ((*SEEN, SEEN[1]), 2), ((SEEN[0], SEEN[0], None), 1), ((SEEN[0], None, SEEN[0]), 1),
        ((*SEEN, ("right", 4), ("right", 5)), 3), ((SEEN[1], ("left", 2), ("right", 2), ("left", 2)), 3),
    )

    def test_wrong_workings(self):
        for value in (*ANYTHING, PRODUCT[:3], list(PRODUCT)):
            error = working_error(value)
            if error is not None:
                self.check_all(BadWorking, {"steps": value, "wish": None, "features": None}, error=error)
                self.check_error(self.tally({}, steps=value, features=None, book=None), BadWorking, error=error)

    def test_misfits(self):
        for steps in ((("slide", "D", 0, "x"), READ), (("line", "A", 2, "x"), READ), (("read", "F", "n"),)):
            number, word = misfit(COMMON, steps)
            told = {"steps": steps, "wish": None, "features": None, "book": None}
            self.check_all(Misfit, told, number=number, word=word)
            self.check_error(self.tally({}, steps=steps, features=None), Misfit, number=number, word=word)

    def test_wishes(self):
        for value in (*ANYTHING, (4, (), (0, 1)), (1, (("x", 9),), (0, 1))):
            self.check_all(BadWish, {"wish": value, "features": None, "book": None}, word=wish_error(value))
        self.check_all(BadWish, {"wish": (2, *MULTIPLY[1:]), "features": None}, word="times")
        self.check_all(BadWish, {"wish": (2, MULTIPLY[1], None), "features": None}, word="constant")

    def test_features(self):
        for value, index in self.bad_features:
            with self.subTest(value=value):
                many = (1, tuple((name, 1) for name in "pqr"), (0, 1))
                self.check_all(BadFeatures, {"features": value, "book": None}, index=index)
                self.check_all(BadFeatures, {"features": value, "wish": many}, index=index)
                self.check_error(self.tally(features=value, book=None), BadFeatures, index=index)

    def test_features_of_all_kinds(self):
        for value in ANYTHING:
            if type(value) is not tuple or len(value) > MAX_FEATURES:
                self.check_all(BadFeatures, {"features": value}, index=None)
            elif len(value) > 0:
                self.check_all(BadFeatures, {"features": value}, index=0)
            for feature in (value, (value, 4), ("left", value)):
                if feature not in (("left", 2), ("left", 4), ("right", 4)):
                    self.check_all(BadFeatures, {"features": (SEEN[1], feature)}, index=1)

    def test_six_features(self):
        steps = (*[("slide", "C", 0, "x")] * 3, READ)
        features = tuple((word, number) for number in range(3) for word in ("left", "right"))
        self.assertEqual(tally(COMMON, steps, features, (1,) * 7, {"x": (1, 2)}), 4)
        book = (0,) * 8
        self.check_all(BadFeatures, {"steps": steps, "features": (*features, ("decade", 3)), "book": book}, index=None)

    def test_too_many(self):
        wish = (1, (("p", 1), ("q", 1)), (0, 1))
        self.check_all(TooMany, {"wish": wish, "book": None}, limit=MAX_OPERANDS)
        self.check_all(TooMany, {"wish": (1, (("out", 1), ("p", 1)), (0, 1))}, limit=MAX_OPERANDS)
        for call in self.calls(wish=(1, (("p", 1), ("x", 1)), (0, 1)), book=(0, 0, 0)):
            call()

    def test_books(self):
        books = (
            None, 0, [0, 1, 1], (), (0,), (0, 1), (0, 1, 1, 1), (0, 1, True), (False, 1, 1), (0, 1, None),
            (0, 1, (1, 1)), (0, "1", 1), "abc", {}, ((0, 1, 1),),
        )
        for book in (*books, *[value for value in ANYTHING if repr(value) != "(1, 2, 3)"]):
            self.check_error(self.calls(book=book)[0], BadBook)
            self.check_error(self.tally(book=book), BadBook)
        self.check_error(self.tally(features=(), book=(True,)), BadBook)

    def test_operands(self):
        self.check_error(self.tally({"y": None}, features=None), Missing, name="x")
        self.check_error(self.tally({"y": None, "x": (1, 1)}, features=None), NoMantissa, value=(1, 1))
        self.check_error(self.tally({"y": None, "x": (1, 2)}, features=None), NoMantissa, value=None)

    def test_off(self):
        self.check_error(self.tally({}, steps=OFF, features=None, book=None), BadFeatures, index=None)
        self.check_error(self.tally({}, steps=OFF, features=(("left", 0),), book=None), BadBook)
        self.check_error(self.tally({}, steps=OFF, features=(("left", 0),), book=(0, 1)), Off, number=1)
        off = {"x": (3, 4), "y": (1, 2)}
        self.check_error(self.tally(off, steps=PRODUCT, features=(("right", 1),), book=(0, 1)), Off, number=2)
        self.assertEqual(tally(COMMON, PRODUCT, (("right", 1),), (0, 1), {"x": (1, 4), "y": (1, 2)}), 1)


if __name__ == "__main__":
    unittest.main()
