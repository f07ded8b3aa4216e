"""Points [14] and [2] (c): wishes, and what holds of workings at all operands."""

import inspect
import random
import time
import unittest

from offscale import claims
from offscale.bounds import MAX_OPERANDS
from offscale.claims import alike, meets, runs_off, wish_error
from offscale.errors import BadWish, BadWorking, Misfit, TooMany
from offscale.fractions import part_of
from offscale.rules import Rule
from offscale.runs import run
from offscale.sheets import sheet
from offscale.steps import misfit, operands_of, working_error
from samples import ANYTHING, DIGITS, any_mantissa, pair
from workings import (
    BOTH, CHAIN, COMMON, LINE_OFF, LINE_READS, PRODUCT, QUOTIENT, READ, TRIES, WIDE, Play, any_operands, any_rule,
    any_wish, any_working, changed, is_met, wish_sum,
)

MULTIPLY = (1, (("x", 1), ("y", 1)), (0, 1))
DIVIDE = (1, (("x", 1), ("y", -1)), (0, 1))
GOOD = (2, (("a", 3), ("b", -3), ("xyz", 1)), (3, 4))
ZERO = (("line", "D", 0, "left"), READ)


def forms_of(rule, *workings):
    """The forms of all conditions of all cells of some workings."""
    return [form for steps in workings for cell in sheet(rule, steps) for form, _ in cell.conditions]


class ClaimCase(unittest.TestCase):
    def setUp(self):
        self.chance = random.Random(14)

    def check_error(self, call, kind, **wanted):
        with self.assertRaises(kind) as caught:
            call()
        self.assertIs(type(caught.exception), kind)
        self.assertEqual(vars(caught.exception), wanted)

    def check_off(self, rule, steps, many=20):
        """Check the answer of runs_off, and return whether it is None."""
        answer = runs_off(rule, steps)
        names = operands_of(steps)
        if answer is None:
            for operands in self.some(rule, names, many, steps):
                self.assertEqual(run(rule, steps, operands)[1][0], "reads")
        else:
            self.assertIs(type(answer), tuple)
            operands, number = answer
            self.assertEqual((type(operands), tuple(sorted(operands))), (dict, names))
            self.assertEqual(run(rule, steps, operands)[1], ("off", number))
            self.assertEqual(Play(rule, steps, operands).outcome, ("off", number))
        return answer is None

    def check_alike(self, rule, one, other, many=20):
        """Check the answer of alike, and return whether it is None."""
        answer = alike(rule, one, other)
        names = sorted({*operands_of(one), *operands_of(other)})
        if answer is None:
            for operands in self.some(rule, names, many, one, other):
                self.assertFalse(self.are_unlike(rule, one, other, operands))
        else:
            self.assertEqual((type(answer), sorted(answer)), (dict, names))
            self.assertTrue(self.are_unlike(rule, one, other, answer))
        return answer is None

    def check_meets(self, rule, steps, wish, many=20):
        """Check the answer of meets, and return whether it is None."""
        answer = meets(rule, steps, wish)
        names = sorted({*operands_of(steps), *[name for name, _ in wish[1]]})
        if answer is None:
            for operands in self.some(rule, names, many, steps):
                play = Play(rule, steps, operands)
                self.assertTrue(play.off is not None or is_met(wish, play.reading, operands))
        else:
            self.assertEqual((type(answer), sorted(answer)), (dict, names))
            play = Play(rule, steps, answer)
            self.assertIsNone(play.off)
            self.assertFalse(is_met(wish, play.reading, answer))
        return answer is None

    def some(self, rule, names, many, *workings):
        forms = forms_of(rule, *workings)
        return [any_operands(self.chance, names, forms) for _ in range(many)]

    def are_unlike(self, rule, one, other, operands):
        first, second = Play(rule, one, operands), Play(rule, other, operands)
        if first.off is None and second.off is None:
            return first.reading != second.reading
        return (first.off is None) != (second.off is None)


class InterfaceTest(ClaimCase):
    def test_example(self):
        self.assertEqual(
            [
                runs_off(COMMON, BOTH), meets(COMMON, BOTH, MULTIPLY), runs_off(COMMON, QUOTIENT),
                meets(COMMON, QUOTIENT, DIVIDE), alike(COMMON, BOTH, BOTH),
            ],
            [None, None, None, None, None],
        )

    def test_arguments(self):
        told = {
            "wish_error": "(value)", "runs_off": "(rule, steps)", "alike": "(rule, one, other)",
            "meets": "(rule, steps, wish)",
        }
        for name, arguments in told.items():
            self.assertEqual(str(inspect.signature(getattr(claims, name))), arguments)
            self.assertEqual(getattr(claims, name).__module__, "offscale.claims")


class WishTest(ClaimCase):
    def check(self, value, word):
        with self.subTest(value=value):
            self.assertEqual(wish_error(value), word)

    def test_wishes(self):
        more = ((1, (), (0, 1)), (3, (("x", 3),), (1, DIGITS)), (1, (("x", -3),), (0, 1)))
        for value in (GOOD, MULTIPLY, DIVIDE, *more):
            self.check(value, None)
        # How many names there may be is not asked here.
        self.check((1, tuple((name, 1) for name in "abcdefgh"), (0, 1)), None)

    def test_no_wishes(self):
        for value in ANYTHING:
            three = type(value) is tuple and len(value) == 3
            self.check(value, ("factors" if repr(value[0]) in ("1", "2", "3") else "times") if three else "wish")
        for value in ((), (1,), GOOD[:2], (*GOOD, 1), list(GOOD), {1: GOOD}, (GOOD,), "abc", None):
            self.check(value, "wish")

    def test_times(self):
        for value in (0, 4, -1, True, False, None, (1, 1), "1", (), [1], DIGITS, -DIGITS, {}):
            self.check((value, *GOOD[1:]), "times")
            self.check((value, [], None), "times")

    def test_factors(self):
        for value in (
            None, 1, "x", [], {}, [("x", 1)], {"x": 1}, ("x", 1), (("x", 1), None), (("x",),), (("x", 1, 1),),
            (["x", 1],), (("x", 0),), (("x", 4),), (("x", -4),), (("x", True),), (("x", (1, 1)),), (("x", "1"),),
            (("x", None),),
            (("X", 1),), (("", 1),), (("abcd", 1),), (("x1", 1),), ((1, 1),), ((None, 1),), (((), 1),), (([], 1),),
            (("x", 1), ("x", 1)), (("x", 1), ("x", 2)), (("y", 1), ("x", 1)), (("x", 1), ("y", 1), ("x", 1)),
            (("b", 1), ("ab", 1)), (("x", DIGITS),), (("left", 1),),
        ):
            self.check((1, value, (0, 1)), "factors")
            self.check((3, value, None), "factors")

    def test_constants(self):
        for value in (
            None, 0, 1, "0/1", (), [0, 1], (1, 1), (-1, 2), (2, 4), (3, 2), (1, 0), (True, 2), (0, True), (0, 1, 1), {},
            (DIGITS, 1), (0, 2), ((0, 1),),
        ):
            self.check((1, (("x", 1),), value), "constant")

    def test_each_part_replaced(self):
        good = {"times": ("1", "2", "3"), "factors": ("()",), "constant": ("(0, 1)", "(1, 2)")}
        for at, word in enumerate(("times", "factors", "constant")):
            for value in ANYTHING:
                self.check((*GOOD[:at], value, *GOOD[at + 1:]), None if repr(value) in good[word] else word)


class OffTest(ClaimCase):
    def test_some(self):
        self.assertTrue(self.check_off(COMMON, BOTH))
        self.assertTrue(self.check_off(COMMON, QUOTIENT))
        self.assertFalse(self.check_off(COMMON, PRODUCT))
        self.assertEqual(runs_off(COMMON, PRODUCT)[1], 2)
        off = (("slide", "C", 0, "right"), ("line", "C", 0, "left"), READ)
        self.assertEqual(runs_off(COMMON, off), ({}, 1))
        self.assertIsNone(runs_off(COMMON, (READ,)))

    def test_just_on_one_line(self):
        operands, number = runs_off(COMMON, LINE_OFF)
        self.assertEqual(operands["x"], operands["y"])
        self.assertEqual(number, 8)
        self.assertTrue(self.check_off(COMMON, LINE_READS))

    def test_just_at_the_end(self):
        # The slide is drawn out just so far that the hairline comes to its end.
        steps = (("line", "D", 0, "right"), ("slide", "C", 0, "x"), ("line", "C", 0, "x"), READ)
        self.assertTrue(self.check_off(COMMON, steps))
        steps = (("line", "D", 0, "x"), ("slide", "C", 0, "left"), ("line", "C", 0, "left"), ("read", "C", "out"))
        self.assertTrue(self.check_off(COMMON, steps))
        steps = (("slide", "C", 0, "x"), ("line", "C", 0, "x"), READ)
        self.assertTrue(self.check_off(COMMON, steps))

    def test_at_random(self):
        found = []
        for _ in range(150):
            rule = any_rule(self.chance)
            steps = any_working(self.chance, rule, self.chance.randint(2, 10), "xyz"[:self.chance.randint(1, 3)])
            found.append(self.check_off(rule, steps, 8))
        self.assertGreater(min(found.count(True), found.count(False)), 20)


class AlikeTest(ClaimCase):
    def check_both_ways(self, one, other, answer, rule=COMMON):
        self.assertIs(self.check_alike(rule, one, other), answer)
        self.assertIs(self.check_alike(rule, other, one), answer)

    def test_steps_that_change_nothing(self):
        for steps in (PRODUCT, BOTH, QUOTIENT, LINE_READS, (READ,)):
            self.check_both_ways(steps, steps, True)
            self.check_both_ways(steps, (("line", "A", 1, (1, 7)), ("line", "D", 0, "left"), *steps), True)
            self.check_both_ways(steps, (("read", "K", "kk"), *steps), True)
        self.check_both_ways(QUOTIENT, (*QUOTIENT[:-1], ("try", (READ,), (READ,))), True)
        self.check_both_ways(QUOTIENT, (*QUOTIENT[:2], ("try", QUOTIENT[2:3], ()), READ), True)

    def test_the_same_in_another_way(self):
        _, first, second = BOTH[1]
        line = ("line", "C", 0, "x")
        other = (("line", "D", 0, "y"), ("try", (first[0], line), (second[0], line)), READ)
        self.check_both_ways(BOTH, other, True)
        # The other scales tell the same; at the right ends a decade is told that does not count.
        twice = (("line", "D", 0, "x"), ("read", "A", "out"))
        self.check_both_ways(twice, (("line", "D", 0, "x"), ("read", "B", "out")), True)
        self.check_both_ways(twice, (("line", "A", 0, "x"), ("read", "D", "n"), ("line", "K", 0, "n"), READ), False)

    def test_one_goes_off(self):
        self.check_both_ways(PRODUCT, BOTH, False)
        self.check_both_ways(PRODUCT, PRODUCT, True)
        off = (("slide", "C", 0, "right"), ("line", "C", 0, "left"), READ)
        self.check_both_ways(off, (READ,), False)
        # Two that go off are alike, wherever they do.
        self.check_both_ways(off, (("line", "D", 0, "x"), ("line", "D", 0, "left"), *off), True)
        self.check_both_ways(off, (off[0], ("line", "A", 0, (1, 2)), *off), True)

    def test_just_on_one_line(self):
        for steps in (LINE_OFF, LINE_READS):
            self.check_both_ways(steps, ZERO, False)
            for answer in (alike(COMMON, steps, ZERO), alike(COMMON, ZERO, steps)):
                self.assertEqual(answer["x"], answer["y"])
        self.check_both_ways(LINE_OFF, LINE_READS, False)

    def test_names_that_mean_something_else_in_the_other(self):
        # The note of one is the operand of the other, and they are not the same.
        one = (("line", "D", 0, "x"), ("read", "D", "y"), ("line", "D", 0, "y"), READ)
        other = (("line", "D", 0, "y"), ("read", "D", "x"), ("line", "D", 0, "x"), READ)
        self.check_both_ways(one, other, False)
        self.check_both_ways(one, (("line", "D", 0, "x"), READ), True)
        self.check_both_ways((("line", "D", 0, "x"), READ), (("line", "D", 0, "y"), READ), False)

    def test_operands_of_just_one(self):
        one = (("line", "D", 0, "y"), ("line", "D", 0, "x"), READ)
        other = (("line", "A", 1, "z"), ("line", "D", 0, "x"), READ)
        self.check_both_ways(one, other, True)
        self.assertEqual(sorted(alike(COMMON, one, (("line", "A", 1, "z"), READ))), ["x", "y", "z"])

    def test_at_random(self):
        found = []
        for _ in range(150):
            rule = any_rule(self.chance)
            names = "xyz"[:self.chance.randint(1, 3)]
            one = any_working(self.chance, rule, self.chance.randint(2, 9), names)
            other = one
            for _ in range(self.chance.randint(1, 2)):
                other = changed(self.chance, rule, other, names)
            if self.chance.random() < 0.5:
                one, other = other, one
            found.append(self.check_alike(rule, one, other, 8))
        self.assertGreater(min(found.count(True), found.count(False)), 30)


class MeetsTest(ClaimCase):
    known = (
        (BOTH, MULTIPLY), (PRODUCT, MULTIPLY), (QUOTIENT, DIVIDE),
        ((("line", "D", 0, "x"), ("read", "A", "out")), (1, (("x", 2),), (0, 1))),
        ((("line", "D", 0, "x"), ("read", "K", "out")), (1, (("x", 3),), (0, 1))),
        ((("line", "A", 0, "x"), READ), (2, (("x", 1),), (0, 1))),
        ((("line", "A", 1, "x"), READ), (2, (("x", 1),), (0, 1))),
        ((("line", "K", 2, "x"), READ), (3, (("x", 1),), (0, 1))),
        ((("line", "CI", 0, "x"), READ), (1, (("x", -1),), (0, 1))),
        ((("line", "K", 1, "x"), ("read", "A", "out")), (3, (("x", 2),), (0, 1))),
        ((("line", "CI", 0, "x"), ("read", "K", "out")), (1, (("x", -3),), (0, 1))),
        ((("line", "D", 0, (1, 3)), ("slide", "CI", 0, "x"), ("try", (("line", "C", 0, "left"),),
         (("line", "C", 0, "right"),)), READ), (1, (("x", 1),), (1, 3))),
    )

    def test_wishes_that_are_met(self):
        for steps, wish in self.known:
            self.assertTrue(self.check_meets(COMMON, steps, wish))

    def test_with_something_else(self):
        for steps, wish in self.known:
            times, factors, constant = wish
            for other in (
                (times, factors, pair(wish_sum((1, (), (1, 7)), {}))),
                (times, factors[:-1], constant),
                (times, (*factors[:-1], (factors[-1][0], -factors[-1][1])), constant),
                (times, (*factors, ("z", 1)), constant),
                (times % 3 + 1, factors, constant),
            ):
                self.assertFalse(self.check_meets(COMMON, steps, other))

    def test_twice_and_thrice(self):
        # What meets a wish meets the one with all of it doubled.
        self.assertTrue(self.check_meets(COMMON, BOTH, (2, (("x", 2), ("y", 2)), (0, 1))))
        self.assertTrue(self.check_meets(COMMON, BOTH, (3, (("x", 3), ("y", 3)), (0, 1))))
        # And a root does more than the wish asks.
        self.assertFalse(self.check_meets(COMMON, (("line", "A", 0, "x"), READ), (1, (("x", 1),), (0, 1))))

    def test_runs_that_go_off_do_not_count(self):
        off = (("slide", "C", 0, "right"), ("line", "C", 0, "left"), READ)
        for wish in (MULTIPLY, DIVIDE, GOOD):
            self.assertTrue(self.check_meets(COMMON, off, wish))
        self.assertTrue(self.check_meets(COMMON, LINE_OFF, (1, (), (0, 1))))
        self.assertFalse(self.check_meets(COMMON, LINE_OFF, (1, (), (1, 2))))

    def test_just_on_one_line(self):
        answer = meets(COMMON, LINE_READS, (1, (), (0, 1)))
        self.assertEqual(answer["x"], answer["y"])
        self.assertTrue(self.check_meets(COMMON, LINE_READS, (2, (), (0, 1))))

    def test_names_that_are_no_operands(self):
        self.assertTrue(self.check_meets(COMMON, ZERO, (1, (), (0, 1))))
        answer = meets(COMMON, ZERO, (1, (("q", 2),), (0, 1)))
        self.assertEqual(list(answer), ["q"])
        self.assertNotEqual(answer["q"][1], 1)
        self.assertEqual(sorted(meets(COMMON, BOTH, (1, (("q", 1), ("x", 1)), (0, 1)))), ["q", "x", "y"])

    def test_the_name_of_a_note(self):
        # The operand out stands beside the note out.
        steps = (("line", "D", 0, "x"), READ)
        self.assertFalse(self.check_meets(COMMON, steps, (1, (("out", 1),), (0, 1))))
        self.assertEqual(sorted(meets(COMMON, steps, (1, (("out", 1),), (0, 1)))), ["out", "x"])

    def test_folded_scales(self):
        rule = Rule((("D", 1, (0, 1)), ("DF", 1, (1, 2)), ("AF", -2, (1, 3))), (("C", 1, (1, 4)),))
        for steps, wish in (
            ((("line", "D", 0, "x"), ("read", "DF", "out")), (1, (("x", 1),), (1, 2))),
            ((("line", "DF", 0, "x"), READ), (1, (("x", 1),), (1, 2))),
            ((("line", "D", 0, "x"), ("read", "AF", "out")), (1, (("x", -2),), (1, 3))),
            ((("line", "D", 0, "x"), ("read", "C", "out")), (1, (("x", 1),), (1, 4))),
        ):
            self.assertTrue(self.check_meets(rule, steps, wish))
            self.assertFalse(self.check_meets(rule, steps, (*wish[:2], (1, 5))))

    def test_at_random(self):
        found = []
        for _ in range(250):
            rule = any_rule(self.chance)
            names = "xyz"[:self.chance.randint(1, 3)]
            steps = any_working(self.chance, rule, self.chance.randint(2, 8), names)
            found.append(self.check_meets(rule, steps, any_wish(self.chance, names), 5))
            # A wish that comes from a reading is met at least in one cell.
            for cell in sheet(rule, steps)[:3]:
                if cell.outcome[0] == "reads":
                    factors, constant = cell.outcome[1].terms, cell.outcome[1].constant
                    if all(factor[1] == 1 and abs(factor[0]) <= 3 for _, factor in factors):
                        wish = (1, tuple((name, factor[0]) for name, factor in factors), part_of(constant))
                        found.append(self.check_meets(rule, steps, wish, 5))
        self.assertGreater(min(found.count(True), found.count(False)), 50)

    def test_long_fractions(self):
        for _ in range(20):
            fold, constant = any_mantissa(self.chance, 40), any_mantissa(self.chance, 40)
            rule = Rule((("D", 1, (0, 1)), ("DF", 1, fold)), (("C", 1, (0, 1)),))
            steps = (("line", "D", 0, "x"), ("read", "DF", "out"))
            self.assertTrue(self.check_meets(rule, steps, (1, (("x", 1),), fold), 3))
            self.assertIs(self.check_meets(rule, steps, (1, (("x", 1),), constant), 3), fold == constant)


class ErrorTest(ClaimCase):
    def test_wrong_workings(self):
        for value in (*ANYTHING, PRODUCT[:3], list(PRODUCT), (("line", "D", 0, "out"), READ)):
            error = working_error(value)
            if error is not None:
                self.check_error(lambda: runs_off(COMMON, value), BadWorking, error=error)
                self.check_error(lambda: meets(COMMON, value, None), BadWorking, error=error)
                self.check_error(lambda: alike(COMMON, value, value), BadWorking, error=error)
                self.check_error(lambda: alike(COMMON, PRODUCT, value), BadWorking, error=error)
                self.check_error(lambda: alike(COMMON, value, PRODUCT), BadWorking, error=error)

    def test_misfits(self):
        for steps in ((("slide", "D", 0, "x"), READ), (("line", "A", 2, "x"), READ), (("read", "F", "n"),)):
            number, word = misfit(COMMON, steps)
            for call in (
                lambda: runs_off(COMMON, steps), lambda: meets(COMMON, steps, None), lambda: alike(COMMON, steps, None),
                lambda: alike(COMMON, PRODUCT, steps),
            ):
                self.check_error(call, Misfit, number=number, word=word)

    def test_the_first_one_is_told_first(self):
        wrong, unfit = PRODUCT[:3], (("read", "F", "n"),)
        self.check_error(lambda: alike(COMMON, wrong, ()), BadWorking, error=(None, "end"))
        self.check_error(lambda: alike(COMMON, unfit, wrong), Misfit, number=0, word="scale")
        self.check_error(lambda: alike(COMMON, wrong, unfit), BadWorking, error=(None, "end"))
        self.check_error(lambda: alike(COMMON, BOTH, unfit), Misfit, number=0, word="scale")

    def test_wishes(self):
        for value in (*ANYTHING, (0, *MULTIPLY[1:]), (1, (("x", 4),), (0, 1)), (1, (), (1, 1))):
            self.check_error(lambda: meets(COMMON, BOTH, value), BadWish, word=wish_error(value))

    def test_too_many(self):
        four = (1, (("p", 1), ("q", 1), ("x", 1)), (0, 1))
        self.check_error(lambda: meets(COMMON, BOTH, four), TooMany, limit=MAX_OPERANDS)
        self.check_error(lambda: meets(COMMON, ZERO, (1, tuple((n, 1) for n in "abcd"), (0, 1))), TooMany, limit=3)
        self.check_error(lambda: meets(COMMON, BOTH, (*four[:2], None)), BadWish, word="constant")
        self.assertFalse(self.check_meets(COMMON, ZERO, four))
        others = (("line", "D", 0, "p"), ("line", "D", 0, "q"), READ)
        self.check_error(lambda: alike(COMMON, BOTH, others), TooMany, limit=MAX_OPERANDS)
        self.check_error(lambda: alike(COMMON, others, BOTH), TooMany, limit=MAX_OPERANDS)
        # A note counts for a wish, but not for another working.
        self.check_error(lambda: meets(COMMON, BOTH, (1, (("out", 1), ("q", 1)), (0, 1))), TooMany, limit=MAX_OPERANDS)
        self.assertFalse(self.check_alike(COMMON, (*BOTH[:2], ("read", "D", "p")), others[1:]))


class WholeTest(ClaimCase):
    def test_large_ones(self):
        start = time.monotonic()
        more = (1, (("x", 3), ("y", 3), ("z", -3)), (0, 1))
        for steps in (CHAIN, TRIES):
            self.assertFalse(self.check_off(WIDE, steps, 3))
            self.assertTrue(self.check_alike(WIDE, steps, steps, 3))
            self.assertFalse(self.check_meets(WIDE, steps, more, 3))
        self.assertFalse(self.check_alike(WIDE, CHAIN, TRIES, 3))
        self.assertLess(time.monotonic() - start, 60)

    def test_equal_calls(self):
        for _ in range(20):
            rule = any_rule(self.chance)
            one, other = any_working(self.chance, rule, 5), any_working(self.chance, rule, 5)
            wish = any_wish(self.chance, "xyz")
            for call in (lambda: runs_off(rule, one), lambda: alike(rule, one, other), lambda: meets(rule, one, wish)):
                first = call()
                kept = first if first is None or type(first) is tuple else dict(first)
                self.assertEqual(call(), kept)
                if type(first) is dict:
                    first.clear()
                    self.assertEqual(call(), kept)


if __name__ == "__main__":
    unittest.main()
