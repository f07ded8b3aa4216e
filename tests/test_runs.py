"""Points [11] and [12]: runs at given operands, their courses and trails."""

import inspect
import random
import unittest

from offscale import runs
from offscale.errors import BadWorking, Misfit, Missing, NoMantissa
from offscale.rules import Rule
from offscale.runs import run, trail
from offscale.steps import misfit, operands_of, working_error
from samples import ANYTHING, DIGITS, any_mantissa
from workings import BOTH, COMMON, PRODUCT, READ, Play, any_operands, any_rule, any_working

NO_MANTISSAS = (
    (1, 1), (2, 1), (-1, 2), (2, 4), (0, 2), (1, 0), (1, -2), [1, 2], (True, 2), (0, True), 0, 1, None, "1/2", "x",
    (1, 2, 3), (1,), (), {}, ((1, 2),), False,
)


def line(scale, figure, stretch=0):
    return ("line", scale, stretch, figure)


def slide(scale, figure, stretch=0):
    return ("slide", scale, stretch, figure)


class RunCase(unittest.TestCase):
    def setUp(self):
        self.chance = random.Random(11)

    def check_run(self, rule, steps, operands, course, outcome, signs=False):
        with self.subTest(steps=steps, operands=operands):
            self.assertEqual(run(rule, steps, operands, signs=signs), (course, outcome))

    def check_error(self, rule, steps, operands, kind, **told):
        for signs in (False, True):
            with self.assertRaises(kind) as caught:
                run(rule, steps, operands, signs=signs)
            self.assertIs(type(caught.exception), kind)
            for name, value in told.items():
                self.assertEqual(getattr(caught.exception, name), value)
        with self.assertRaises(kind) as caught:
            next(trail(rule, steps, operands))
        for name, value in told.items():
            self.assertEqual(getattr(caught.exception, name), value)


class InterfaceTest(RunCase):
    def test_example(self):
        at = {"x": (1, 4), "y": (1, 2)}
        self.assertEqual(
            [
                run(COMMON, PRODUCT, at), run(COMMON, PRODUCT, at, signs=True), list(trail(COMMON, PRODUCT, at))[1:3],
                run(COMMON, PRODUCT, {"x": (1, 4), "y": (7, 8)}),
            ],
            [
                ((0, 0, 0, 0), ("reads", (3, 4))), ((0, 1, 0, 0, 0), ("reads", (3, 4))),
                [(1, (1, 4), (1, 4)), (2, (3, 4), (1, 4))], ((0, 0, 1), ("off", 2)),
            ],
        )
        at = {"x": (3, 4), "y": (1, 2)}
        self.assertEqual(
            [run(COMMON, BOTH, at), [row[0] for row in list(trail(COMMON, BOTH, at))]],
            [((0, 0, 1, 0, 0, 0), ("reads", (1, 4))), [0, 4, 5, 6]],
        )

    def test_arguments(self):
        told = {"run": "(rule, steps, operands, *, signs=False)", "trail": "(rule, steps, operands)"}
        for name, arguments in told.items():
            self.assertEqual(str(inspect.signature(getattr(runs, name))), arguments)
            self.assertEqual(getattr(runs, name).__module__, "offscale.runs")
        self.assertTrue(inspect.isgenerator(trail(COMMON, PRODUCT, {"x": (0, 1), "y": (0, 1)})))


class StepTest(RunCase):
    def test_at_home(self):
        # The hairline and the slide begin at the left ends.
        self.check_run(COMMON, (READ,), {}, (0,), ("reads", (0, 1)))
        self.check_run(COMMON, (("read", "CI", "out"),), {}, (0, 0), ("reads", (0, 1)))
        self.assertEqual(list(trail(COMMON, (READ,), {})), [(0, (0, 1), (0, 1))])

    def test_ends(self):
        for scale, decade in (("A", 2), ("D", 1), ("K", 3)):
            steps = (line("D", "right"), ("read", scale, "out"))
            self.check_run(COMMON, steps, {}, (decade,), ("reads", (0, 1)))
        self.check_run(COMMON, (line("CI", "right"), ("read", "CI", "out")), {}, (0, 0, -1), ("reads", (0, 1)))
        self.check_run(COMMON, (line("CI", "left"), ("read", "CI", "out")), {}, (0, 0, 0), ("reads", (0, 1)))

    def test_stretches(self):
        x = {"x": (1, 2)}
        for stretch in (0, 1, 2):
            steps = (line("K", "x", stretch), READ)
            self.check_run(COMMON, steps, x, (0, 0), ("reads", ((1, 6), (1, 2), (5, 6))[stretch]))
            left = ((0, 1), (1, 3), (2, 3))[stretch]
            self.check_run(COMMON, (line("K", (0, 1), stretch), READ), {}, (0,), ("reads", left))

    def test_folds_and_backwards(self):
        rule = Rule((("F", 1, (1, 2)), ("G", -2, (1, 4))), (("H", -1, (1, 3)),))
        for x, course, hairline in (
            ((1, 2), (0, 0), (0, 1)), ((1, 4), (-1, 1), (3, 4)), ((3, 4), (0, 0), (1, 4)), ((0, 1), (-1, 1), (1, 2)),
        ):
            steps = (line("F", "x"), ("read", "F", "out"))
            self.check_run(rule, steps, {"x": x}, course, ("reads", x))
            self.assertEqual(list(trail(rule, steps, {"x": x}))[0], (0, hairline, (0, 1)))
        for x, course, hairline in (
            ((1, 4), (0, -1), (1, 2)), ((0, 1), (0, -1), (5, 8)),
            ((1, 2), (-1, -2), (7, 8)), ((3, 4), (-1, -2), (3, 4)),
        ):
            steps = (line("G", "x", 1), ("read", "G", "out"))
            self.check_run(rule, steps, {"x": x}, course, ("reads", x))
            self.assertEqual(list(trail(rule, steps, {"x": x}))[0], (0, hairline, (0, 1)))
        # On a slide scale that turns backwards, the figure 1/3 stands at its left end.
        self.check_run(rule, (line("H", "x"), ("read", "F", "out")), {"x": (1, 3)}, (0, 0, 0), ("reads", (1, 2)))
        self.check_run(rule, (line("H", "x"), ("read", "F", "out")), {"x": (1, 2)}, (-1, 0, 1), ("reads", (1, 3)))

    def test_marks_and_ends_tell_no_floor(self):
        steps = (line("D", (1, 4)), slide("C", (1, 2)), line("C", "right"), READ)
        self.check_run(COMMON, steps, {}, (0, 0), ("reads", (3, 4)))
        self.check_run(COMMON, steps, {}, (-1, 0, 0), ("reads", (3, 4)), signs=True)

    def test_the_line_just_to_the_ends(self):
        for x, y, course, outcome in (
            ((1, 2), (1, 2), (0, 0, 0, 1), ("reads", (0, 1))),
            ((1, 2), (501, 1000), (0, 0, 1), ("off", 2)),
            ((0, 1), (0, 1), (0, 0, 0, 0), ("reads", (0, 1))),
            ((999, 1000), (1, 1000), (0, 0, 0, 1), ("reads", (0, 1))),
        ):
            self.check_run(COMMON, PRODUCT, {"x": x, "y": y}, course, outcome)
        below = (slide("C", "x"), line("C", "y"), READ)
        for x, y, course, outcome in (
            ((1, 2), (1, 2), (0, 0, 0, 0), ("reads", (0, 1))),
            ((1, 2), (499, 1000), (0, 0, -1), ("off", 1)),
            ((1, 2), (3, 4), (0, 0, 0, 0), ("reads", (1, 4))),
        ):
            self.check_run(COMMON, below, {"x": x, "y": y}, course, outcome)

    def test_a_read_just_to_the_ends(self):
        steps = (line("D", "x"), slide("C", "left"), line("D", "y"), ("read", "C", "out"))
        for x, y, course, outcome in (
            ((1, 2), (1, 2), (0, 0, 0, 0), ("reads", (0, 1))),
            ((1, 2), (499, 1000), (0, 0, -1), ("off", 3)),
            ((1, 2), (3, 4), (0, 0, 0, 0), ("reads", (1, 4))),
        ):
            self.check_run(COMMON, steps, {"x": x, "y": y}, course, outcome)
        steps = (slide("C", "x"), line("D", "y"), ("read", "C", "out"))
        for x, y, course, outcome in (
            ((1, 2), (1, 2), (0, 0, 0, 1), ("reads", (0, 1))),
            ((1, 2), (501, 1000), (0, 0, 1), ("off", 2)),
        ):
            self.check_run(COMMON, steps, {"x": x, "y": y}, course, outcome)

    def test_the_slide_just_at_home(self):
        steps = (line("D", "x"), slide("C", "y"), READ)
        for x, y, sign in (((1, 2), (1, 2), 0), ((1, 2), (1, 3), 1), ((1, 3), (1, 2), -1)):
            self.check_run(COMMON, steps, {"x": x, "y": y}, (0, 0, 0), ("reads", x))
            self.check_run(COMMON, steps, {"x": x, "y": y}, (0, 0, sign, 0), ("reads", x), signs=True)

    def test_bounds_of_stretches(self):
        steps = (line("D", "x"), ("read", "K", "out"))
        for x, decade, mantissa in (
            ((0, 1), 0, (0, 1)), ((1, 3), 1, (0, 1)), ((333, 1000), 0, (999, 1000)), ((2, 3), 2, (0, 1)),
            ((1, 2), 1, (1, 2)), ((999, 1000), 2, (997, 1000)),
        ):
            self.check_run(COMMON, steps, {"x": x}, (0, decade), ("reads", mantissa))

    def test_notes_are_figures(self):
        steps = (line("D", "x"), ("read", "A", "n"), line("D", "n"), READ)
        self.check_run(COMMON, steps, {"x": (2, 3)}, (0, 1, 0, 0), ("reads", (1, 3)))
        # An operand that is called like a note is none of the working.
        self.check_run(COMMON, steps, {"x": (2, 3), "n": (1, 7), "out": "q"}, (0, 1, 0, 0), ("reads", (1, 3)))


class TryTest(RunCase):
    def test_all_is_as_it_was(self):
        inner = (line("D", (1, 2)), ("read", "D", "n"), slide("C", "right"), line("C", (1, 4)), line("C", "left"))
        steps = (line("D", (1, 8)), ("try", inner, (("read", "C", "n"),)), line("D", "n"), READ)
        # In the first part the slide goes to the left by 1/2, so its left end is not on the body.
        self.assertEqual(run(COMMON, steps, {}), ((0, -1, 0, 0, 0, 0), ("reads", (1, 8))))
        self.assertEqual(
            list(trail(COMMON, steps, {})),
            [(0, (1, 8), (0, 1)), (7, (1, 8), (0, 1)), (8, (1, 8), (0, 1)), (9, (1, 8), (0, 1))],
        )

    def test_off_in_the_second_part(self):
        off = (slide("C", "right"), line("C", "left"))
        steps = (line("D", (1, 2)), ("try", off, off), READ)
        self.assertEqual(run(COMMON, steps, {}), ((-1, -1), ("off", 5)))
        self.assertEqual(list(trail(COMMON, steps, {})), [(0, (1, 2), (0, 1)), (4, (1, 2), (-1, 2))])
        self.assertEqual(run(COMMON, steps, {}, signs=True), ((-1, -1, -1, -1), ("off", 5)))

    def test_a_try_around_takes_it_up(self):
        off = (slide("C", "right"), line("C", "left"))
        inner = ("try", off, off)
        steps = (line("D", (1, 2)), ("try", (inner,), (line("D", (1, 4)),)), READ)
        self.assertEqual(run(COMMON, steps, {}), ((-1, -1, 0), ("reads", (1, 4))))
        self.assertEqual([row[0] for row in trail(COMMON, steps, {})], [0, 7, 8])
        steps = (("try", (*off, READ), (inner, READ)),)
        self.assertEqual(run(COMMON, steps, {}), ((-1, -1, -1), ("off", 8)))
        self.assertEqual([row[0] for row in trail(COMMON, steps, {})], [7])

    def test_what_a_second_part_has_done_stands(self):
        off = (slide("C", "right"), line("C", "left"))
        inner = ("try", off, (line("D", (1, 3)),))
        steps = (line("D", (1, 2)), ("try", (inner,), (line("D", (1, 4)),)), READ)
        self.assertEqual(run(COMMON, steps, {}), ((-1, 0), ("reads", (1, 3))))
        self.assertEqual([row[0] for row in trail(COMMON, steps, {})], [0, 5, 7])

    def test_off_at_the_first_and_at_the_last_step(self):
        rule = Rule((("D", 1, (0, 1)),), (("C", 1, (0, 1)),))
        steps = (slide("C", "right"), line("C", "left"), ("read", "C", "out"))
        self.assertEqual(run(rule, steps, {}), ((-1,), ("off", 1)))
        self.assertEqual(list(trail(rule, steps, {})), [(0, (0, 1), (-1, 1))])
        steps = (line("D", "right"), slide("C", "left"), line("D", "left"), ("read", "C", "out"))
        self.assertEqual(run(rule, steps, {}), ((-1,), ("off", 3)))
        self.assertEqual([row[0] for row in trail(rule, steps, {})], [0, 1, 2])

    def test_an_empty_second_part(self):
        steps = (line("D", "x"), slide("C", "y"), ("try", (line("C", "left"),), ()), READ)
        self.check_run(COMMON, steps, {"x": (1, 2), "y": (1, 4)}, (0, 0, 0, 0), ("reads", (1, 4)))
        self.check_run(COMMON, steps, {"x": (1, 4), "y": (1, 2)}, (0, 0, -1, 0), ("reads", (1, 4)))


class RandomTest(RunCase):
    def check_play(self, rule, steps, operands):
        for signs in (False, True):
            play = Play(rule, steps, operands, signs)
            self.assertEqual(run(rule, steps, operands, signs=signs), (tuple(play.course), play.outcome))
        self.assertEqual(list(trail(rule, steps, operands)), play.trail)
        return play

    def test_at_random(self):
        off = given_up = 0
        for _ in range(400):
            rule = any_rule(self.chance)
            steps = any_working(self.chance, rule, self.chance.randint(1, 10), "xyz"[:self.chance.randint(0, 3)])
            for _ in range(5):
                play = self.check_play(rule, steps, any_operands(self.chance, operands_of(steps)))
                off += play.off is not None
                given_up += play.off is None and 1 in play.course
        self.assertGreater(min(off, given_up), 50)

    def test_long_fractions(self):
        for _ in range(50):
            rule = Rule((("D", 1, any_mantissa(self.chance, 40)), ("K", -3, any_mantissa(self.chance, 40))),
                        (("C", 2, any_mantissa(self.chance, 40)),))
            steps = any_working(self.chance, rule, 10)
            self.check_play(rule, steps, {name: any_mantissa(self.chance, 40) for name in operands_of(steps)})

    def test_kinds_of_results(self):
        course, outcome = run(COMMON, PRODUCT, {"x": (1, 4), "y": (1, 2)}, signs=True)
        self.assertEqual([type(one) for one in (course, *course, outcome)], [tuple] + [int] * 5 + [tuple])
        for row in trail(COMMON, PRODUCT, {"x": (1, 4), "y": (1, 2)}):
            self.assertEqual([type(one) for one in (row, *row)], [tuple, int, tuple, tuple])


class ErrorTest(RunCase):
    full = {"x": (1, 4), "y": (1, 2)}

    def test_wrong_workings(self):
        for value in (*ANYTHING, PRODUCT[:3], list(PRODUCT), (line("D", "out"), READ)):
            error = working_error(value)
            if error is not None:
                self.check_error(COMMON, value, self.full, BadWorking, error=error)

    def test_misfits(self):
        unfit = (("read", "F", "n"),)
        for steps in ((slide("D", "x"), READ), (line("F", "x"), READ), (line("A", "x", 2), READ), unfit):
            number, word = misfit(COMMON, steps)
            self.check_error(COMMON, steps, {}, Misfit, number=number, word=word)

    def test_missing(self):
        self.check_error(COMMON, PRODUCT, {}, Missing, name="x")
        self.check_error(COMMON, PRODUCT, {"x": (1, 4)}, Missing, name="y")
        self.check_error(COMMON, PRODUCT, {"y": (1, 4)}, Missing, name="x")
        self.check_error(COMMON, PRODUCT, {"y": 7, "z": (0, 1)}, Missing, name="x")
        self.check_error(COMMON, PRODUCT, {"x": 7, "out": (0, 1)}, Missing, name="y")

    def test_no_mantissas(self):
        for value in (*NO_MANTISSAS, DIGITS, (DIGITS, 1)):
            for steps in (PRODUCT, BOTH):
                self.check_error(COMMON, steps, {"x": value, "y": (1, 2)}, NoMantissa, value=value)
                self.check_error(COMMON, steps, {"x": (1, 2), "y": value}, NoMantissa, value=value)
                self.check_error(COMMON, steps, {"y": None, "x": value}, NoMantissa, value=value)
        for value in ANYTHING:
            if value not in ((0, 1), (1, 2)):
                self.check_error(COMMON, PRODUCT, {"x": (1, 2), "y": value}, NoMantissa, value=value)

    def test_the_very_object(self):
        value = [1, 2]
        with self.assertRaises(NoMantissa) as caught:
            run(COMMON, PRODUCT, {"x": value, "y": (1, 2)})
        self.assertIs(caught.exception.value, value)

    def test_several_at_once(self):
        self.check_error(COMMON, PRODUCT[:3], {}, BadWorking, error=(None, "end"))
        self.check_error(COMMON, (line("F", "x"), line("F", "y")), {}, BadWorking, error=(None, "end"))
        self.check_error(COMMON, (line("F", "x"), READ), {}, Misfit, number=0, word="scale")
        self.check_error(COMMON, PRODUCT, {"x": (1, 1)}, Missing, name="y")
        self.check_error(COMMON, PRODUCT, {"x": (1, 1), "y": (2, 1)}, NoMantissa, value=(1, 1))
        # A step that is not come to counts, too.
        steps = (line("D", "x"), ("try", (line("D", "x"),), (line("D", "y"),)), READ)
        self.check_error(COMMON, steps, {"x": (1, 2)}, Missing, name="y")

    def test_others_do_not_count(self):
        more = {"z": (5, 1), "out": None, "xx": [], **self.full}
        self.assertEqual(run(COMMON, PRODUCT, more), run(COMMON, PRODUCT, self.full))
        self.assertEqual(list(trail(COMMON, PRODUCT, more)), list(trail(COMMON, PRODUCT, self.full)))


class CopyTest(RunCase):
    def test_operands_are_not_changed(self):
        operands = {"y": (1, 2), "q": [1], "x": (1, 4)}
        run(COMMON, BOTH, operands)
        list(trail(COMMON, BOTH, operands))
        self.assertEqual(list(operands.items()), [("y", (1, 2)), ("q", [1]), ("x", (1, 4))])

    def test_changes_while_the_trail_is_asked_for(self):
        operands = {"x": (1, 4), "y": (1, 2)}
        wanted = list(trail(COMMON, PRODUCT, operands))
        rows = trail(COMMON, PRODUCT, operands)
        found = [next(rows)]
        operands["y"] = (7, 8)
        found.append(next(rows))
        operands.clear()
        self.assertEqual(found + list(rows), wanted)

    def test_two_trails_at_once(self):
        operands = {"x": (1, 4), "y": (1, 2)}
        one, other = trail(COMMON, PRODUCT, operands), trail(COMMON, PRODUCT, operands)
        pairs = list(zip(one, other))
        self.assertEqual([a for a, _ in pairs], [b for _, b in pairs])
        self.assertEqual(len(pairs), 4)

    def test_equal_calls(self):
        for _ in range(20):
            rule = any_rule(self.chance)
            steps = any_working(self.chance, rule)
            operands = any_operands(self.chance, operands_of(steps))
            self.assertEqual(run(rule, steps, operands), run(rule, steps, dict(operands)))


if __name__ == "__main__":
    unittest.main()
