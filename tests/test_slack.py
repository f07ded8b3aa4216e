"""Points [16] and [2] (e): how far small faults of setting may change a reading."""

import inspect
import random
import time
import unittest
from fractions import Fraction

from offscale import slack as module
from offscale.errors import BadWorking, Misfit, Missing, NoMantissa
from offscale.fractions import is_fraction
from offscale.rules import Rule
from offscale.runs import run
from offscale.sheets import sheet
from offscale.slack import slack, widest
from offscale.steps import misfit, operands_of, working_error
from samples import ANYTHING, exact, pair
from workings import (
    BOTH, CHAIN, COMMON, LINE_OFF, LINE_READS, PRODUCT, QUOTIENT, READ, TRIES, WIDE, Play, any_operands, any_rule,
    any_working, written,
)

AGAIN = (("line", "D", 0, "x"), ("read", "A", "n"), ("line", "D", 0, "n"), READ)
OFF = (("slide", "C", 0, "right"), ("line", "C", 0, "left"), READ)


def own_slack(rule, steps, operands):
    """The slack of a run: for each setting that stands, the run is done once more with a fault in it alone."""
    play = Play(rule, steps, operands)
    if play.off is not None:
        return None
    found = Fraction(0)
    for number in play.standing:
        if written(steps)[number][0] != "read":
            wrong = Play(rule, steps, operands, faults={number: Fraction(1)}, course=play.course)
            found += abs(wrong.reading - play.reading)
    return pair(found)


class SlackCase(unittest.TestCase):
    def setUp(self):
        self.chance = random.Random(16)

    def check_slack(self, rule, steps, operands):
        answer = slack(rule, steps, operands)
        self.assertEqual(answer, own_slack(rule, steps, operands))
        return answer

    def check_widest(self, rule, steps, many=10):
        """Check the answer of widest, and return the slack in it."""
        answer = widest(rule, steps)
        names = operands_of(steps)
        forms = [form for cell in sheet(rule, steps) for form, _ in cell.conditions]
        found = [any_operands(self.chance, names, forms) for _ in range(many)]
        found.extend([cell.point for cell in sheet(rule, steps)][:20])
        slacks = [slack(rule, steps, operands) for operands in found]
        if answer is None:
            self.assertEqual(slacks, [None] * len(slacks))
            return None
        self.assertEqual((type(answer), type(answer[1]), tuple(sorted(answer[1]))), (tuple, dict, names))
        self.assertEqual(self.check_slack(rule, steps, answer[1]), answer[0])
        for one in slacks:
            if one is not None:
                self.assertLessEqual(exact(one), exact(answer[0]))
        return answer[0]


class InterfaceTest(SlackCase):
    def test_example(self):
        self.assertEqual(
            [
                slack(COMMON, PRODUCT, {"x": (1, 4), "y": (1, 2)}), slack(COMMON, AGAIN, {"x": (1, 3)}),
                widest(COMMON, PRODUCT)[0],
            ],
            [(3, 1), (3, 1), (3, 1)],
        )

    def test_arguments(self):
        for name, arguments in (("slack", "(rule, steps, operands)"), ("widest", "(rule, steps)")):
            self.assertEqual(str(inspect.signature(getattr(module, name))), arguments)
            self.assertEqual(getattr(module, name).__module__, "offscale.slack")


class SomeTest(SlackCase):
    def check(self, steps, operands, wanted, rule=COMMON):
        self.assertEqual(self.check_slack(rule, steps, operands), wanted)

    def test_no_settings(self):
        self.check((READ,), {}, (0, 1))
        self.assertEqual(widest(COMMON, (READ,)), ((0, 1), {}))

    def test_turns(self):
        for scale, wanted in (("A", 2), ("D", 1), ("K", 3), ("B", 2), ("CI", 1)):
            self.check((("line", "D", 0, "x"), ("read", scale, "out")), {"x": (1, 3)}, (wanted, 1))

    def test_only_what_counts(self):
        # The first two settings are set once more, so nothing is left of their faults.
        self.check((("line", "D", 0, "x"), ("slide", "C", 0, "x"), ("line", "D", 0, "x"), READ), {"x": (1, 3)}, (1, 1))
        self.check((("line", "D", 0, "x"), ("slide", "C", 0, "x"), ("read", "C", "out")), {"x": (1, 3)}, (1, 1))
        # Reads set nothing.
        self.check((("line", "D", 0, "x"), ("read", "A", "n"), ("read", "K", "m"), READ), {"x": (1, 3)}, (1, 1))

    def test_faults_that_take_each_other_away(self):
        # The slide is set to the hairline, so the read on it does not feel how wrong the hairline is.
        for end, wanted in (("left", (1, 1)), ("right", (1, 1))):
            steps = (("line", "D", 0, "x"), ("slide", "C", 0, end), ("read", "C", "out"))
            self.check(steps, {"x": (1, 3)}, wanted)

    def test_notes_are_wrong_as_they_are_read(self):
        for scale, stretch, wanted in (("D", 0, (3, 1)), ("A", 0, (2, 1)), ("A", 1, (2, 1)), ("K", 2, (5, 3))):
            steps = (("line", "D", 0, "x"), ("read", "A", "n"), ("line", scale, stretch, "n"), READ)
            self.check(steps, {"x": (1, 3)}, wanted)
        # On a scale that turns backwards the fault has the other sign, and adds up with that of the slide.
        steps = (("line", "D", 0, "x"), ("read", "D", "n"), ("slide", "CI", 0, "n"), ("line", "C", 0, "left"), READ)
        self.check(steps, {"x": (2, 3)}, (4, 1))
        steps = (("line", "D", 0, "x"), ("read", "D", "n"), ("slide", "C", 0, "n"), ("line", "C", 0, "left"), READ)
        self.check(steps, {"x": (2, 3)}, (2, 1))

    def test_marks_and_ends_are_set_wrong_too(self):
        for figure in ("x", (1, 3), "left", "right"):
            self.check((("line", "A", 0, figure), ("read", "K", "out")), {"x": (1, 3)}, (3, 1))

    def test_the_second_part(self):
        self.check(BOTH, {"x": (1, 4), "y": (1, 2)}, (3, 1))
        self.check(BOTH, {"x": (3, 4), "y": (1, 2)}, (3, 1))
        # What a part that was given up has set does not count.
        first = (("slide", "C", 0, "left"), ("read", "K", "n"), ("line", "C", 0, "n"))
        steps = (("line", "D", 0, "x"), ("try", first, ()), READ)
        self.check(steps, {"x": (1, 4)}, (6, 1))
        self.check(steps, {"x": (1, 2)}, (6, 1))
        self.check(steps, {"x": (7, 12)}, (1, 1))
        self.assertEqual(self.check_widest(COMMON, steps), (6, 1))

    def test_off(self):
        self.check(PRODUCT, {"x": (3, 4), "y": (1, 2)}, None)
        self.check(OFF, {}, None)
        self.assertIsNone(self.check_widest(COMMON, OFF))


class WidestTest(SlackCase):
    def test_some(self):
        self.assertEqual(self.check_widest(COMMON, BOTH), (3, 1))
        self.assertEqual(self.check_widest(COMMON, QUOTIENT), (3, 1))
        self.assertEqual(self.check_widest(COMMON, AGAIN), (3, 1))

    def test_just_on_one_line(self):
        _, first, second = LINE_READS[2]
        steps = (*LINE_READS[:2], ("try", (*first, ("read", "K", "n"), ("line", "D", 0, "n")), second), READ)
        answer = widest(COMMON, steps)
        self.assertEqual((answer[0], answer[1]["x"]), ((4, 1), answer[1]["y"]))
        self.assertEqual(self.check_widest(COMMON, steps), (4, 1))
        self.assertEqual(self.check_widest(COMMON, LINE_OFF), (3, 1))

    def test_large_ones(self):
        start = time.monotonic()
        for steps in (CHAIN, TRIES):
            self.check_widest(WIDE, steps)
        self.assertLess(time.monotonic() - start, 30)


class RandomTest(SlackCase):
    def test_at_random(self):
        found = []
        for _ in range(150):
            rule = any_rule(self.chance)
            steps = any_working(self.chance, rule, self.chance.randint(1, 10), "xyz"[:self.chance.randint(0, 3)])
            found.append(self.check_widest(rule, steps, 4))
            for _ in range(4):
                answer = self.check_slack(rule, steps, any_operands(self.chance, operands_of(steps)))
                self.assertTrue(answer is None or is_fraction(answer))
        self.assertGreater(len(set(found)), 5)

    def test_faults_change_what_is_read(self):
        # With a small fault the run takes the same course where it is not just on a bound.
        rule = Rule((("D", 1, (0, 1)), ("A", 2, (0, 1))), (("C", 1, (0, 1)),))
        steps = (("line", "D", 0, "x"), ("read", "A", "n"), ("slide", "C", 0, "n"), ("line", "D", 0, "y"), READ)
        small = Fraction(1, 10 ** 9)
        at = {"x": (1, 7), "y": (1, 5)}
        before = Play(rule, steps, at)
        after = Play(rule, steps, at, faults={3: small})
        self.assertEqual(after.reading - before.reading, small)
        self.assertEqual(run(rule, steps, at)[1], before.outcome)

    def test_equal_calls(self):
        for _ in range(20):
            rule = any_rule(self.chance)
            steps = any_working(self.chance, rule)
            first = widest(rule, steps)
            if first is not None:
                kept = (first[0], dict(first[1]))
                first[1].clear()
                self.assertEqual(widest(rule, steps), kept)


class ErrorTest(SlackCase):
    def check_error(self, call, kind, **wanted):
        with self.assertRaises(kind) as caught:
            call()
        self.assertEqual(vars(caught.exception), wanted)

    def test_wrong_workings(self):
        for value in (*ANYTHING, PRODUCT[:3], list(PRODUCT)):
            error = working_error(value)
            if error is not None:
                self.check_error(lambda: slack(COMMON, value, {}), BadWorking, error=error)
                self.check_error(lambda: widest(COMMON, value), BadWorking, error=error)

    def test_misfits(self):
        for steps in ((("slide", "D", 0, "x"), READ), (("line", "A", 2, "x"), READ), (("read", "F", "n"),)):
            number, word = misfit(COMMON, steps)
            self.check_error(lambda: slack(COMMON, steps, {}), Misfit, number=number, word=word)
            self.check_error(lambda: widest(COMMON, steps), Misfit, number=number, word=word)

    def test_operands(self):
        self.check_error(lambda: slack(COMMON, PRODUCT, {"y": None}), Missing, name="x")
        self.check_error(lambda: slack(COMMON, PRODUCT, {"y": None, "x": (0, 1)}), NoMantissa, value=None)
        self.check_error(lambda: slack(COMMON, PRODUCT, {"y": None, "x": (1, 1)}), NoMantissa, value=(1, 1))
        self.assertEqual(slack(COMMON, PRODUCT, {"y": (0, 1), "x": (0, 1), "out": None}), (3, 1))


if __name__ == "__main__":
    unittest.main()
