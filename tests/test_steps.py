"""Point [9]: workings, what is wrong with them, and whether they fit a rule."""

import inspect
import random
import unittest

from offscale import steps as module
from offscale.bounds import MAX_STEPS
from offscale.rules import Rule
from offscale.steps import count_steps, misfit, notes_of, operands_of, working_error
from samples import ANYTHING, DIGITS, any_mantissa

READ = ("read", "D", "out")
PRODUCT = (("line", "D", 0, "x"), ("slide", "C", 0, "left"), ("line", "C", 0, "y"), READ)

NO_SCALE_NAMES = ("", "d", "Dx", "ABCD", "D1", "D ", 0, 1, True, None, (), ("D",), ["D"], b"D", chr(0xC4))

NO_STRETCHES = (-1, 3, 4, DIGITS, True, False, None, "0", "", (), (0,), [0], (0, 1), {})

NO_FIGURES = (
    "", "abcd", "X", "xY", "x1", "x ", " ", "leftt", "lef t", "LEFT", "Right", "middle", 0, 1, True, None, (),
    (1, 1), (2, 1), (-1, 2), (2, 4), (1, 0), [0, 1], (True, 2), (0, True), ("x",), ["x"], {}, b"x", chr(0xE4),
)

NO_NOTES = (
    "", "abcd", "left", "right", "X", "xY", "x1", "x ", 0, None, True, (), (0, 1), (1, 2), ["x"], ("x",), b"x",
    chr(0xE4),
)

NO_STEPS = (
    (), ("line",), ("read",), ("try",), ("line", "D", 0), ("line", "D", 0, "x", 0), ("slide", "C", 0),
    ("slide", "C", 0, "x", "y"), ("read", "D"), ("read", "D", "x", 0), ("read", "D", 0, "x"), ("try", (READ,)),
    ("try", (READ,), (), ()), ("Line", "D", 0, "x"), ("lines", "D", 0, "x"), ("", "D", 0, "x"), ("tr", (READ,), ()),
    (None, "D", "x"), (0, "D", "x"), (True, "D", "x"), (["read"], "D", "x"), (("read",), "D", "x"),
    ({}, "D", "x"), ["read", "D", "x"], ["line", "D", 0, "x"], "read", "line D x", b"read", 0, None, {},
    ("D", "read", "x"), (READ,), (READ, READ, READ),
)

NO_PARTS = (
    ((), ()), ((), (READ,)), ([READ], ()), ((READ,), []), ((READ,), None), (None, (READ,)), ((READ,), READ[:1][0]),
    (READ[0], ()), (0, 0), ({}, {}), ([], []), ((READ,), True), ((), None),
)


def around(first, second=(READ,)):
    return ("try", first, second)


def numbered(steps, depth=0):
    """All steps in the order of their numbers, each with the number of tries around it."""
    found = []
    for step in steps:
        found.append((step, depth))
        if is_try(step):
            found.extend(numbered(step[1], depth + 1))
            found.extend(numbered(step[2], depth + 1))
    return found


def is_try(step):
    return type(step) is tuple and len(step) == 3 and step[0] == "try" and all(type(part) is tuple for part in step[1:])


def is_word(value, letters, most=3):
    return type(value) is str and 1 <= len(value) <= most and set(value) <= set(letters)


def wrong_word(step, depth):
    """What is wrong with a step by itself, told in another way than by the package."""
    small, great = "abcdefghijklmnopqrstuvwxyz", "ABCDEFGHIJKLMNOPQRSTUVWXYZ"
    kinds = {"line": 4, "slide": 4, "read": 3, "try": 3}
    if type(step) is not tuple or [word for word in kinds if step[:1] == (word,) and len(step) == kinds[word]] == []:
        return "step"
    if step[0] == "try":
        if not is_try(step) or len(step[1]) == 0:
            return "parts"
        return "deep" if depth > 1 else None
    if not is_word(step[1], great):
        return "scale"
    if step[0] == "read":
        return None if is_word(step[2], small) else "name"
    if type(step[2]) is not int or step[2] not in (0, 1, 2):
        return "stretch"
    if type(step[3]) is str:
        end = step[3] in ("left", "right") and step[2] == 0
        return None if end or is_word(step[3], small) else "figure"
    if type(step[3]) is tuple and [type(item) for item in step[3]] == [int, int]:
        top, bottom = step[3]
        lowest = 0 <= top < bottom and not any(top % k == bottom % k == 0 for k in range(2, min(bottom, 99) + 1))
        return None if lowest else "figure"
    return "figure"


def ends(steps):
    return steps != () and (steps[-1][0] == "read" or (steps[-1][0] == "try" and all(map(ends, steps[-1][1:]))))


def scope_errors(steps, ways, notes, number=0):
    """The numbers of the steps out of scope, where ways are the sets of names noted on each way to the first one.

    A name is known if it is noted on all ways that lead to a step.
    """
    wrong = []
    for step in steps:
        known = set.intersection(*ways)
        if step[0] == "read":
            wrong.extend([number] if step[2] in known else [])
            ways = [way | {step[2]} for way in ways]
        elif step[0] == "try":
            first, ahead = scope_errors(step[1], ways, notes, number + 1)
            second, behind = scope_errors(step[2], ways, notes, number + 1 + len(numbered(step[1])))
            wrong.extend(first + second)
            ways = ahead + behind
        elif step[3] in notes and step[3] not in known:
            wrong.append(number)
        number += len(numbered((step,)))
    return wrong, ways


def wanted_error(value):
    """What working_error has to return, told in another way than by the package."""
    if type(value) is not tuple:
        return (None, "working")
    rows = numbered(value)
    for number, (step, depth) in enumerate(rows):
        if wrong_word(step, depth) is not None:
            return (number, wrong_word(step, depth))
    if len(rows) > MAX_STEPS:
        return (None, "many")
    if not ends(value):
        return (None, "end")
    notes = {step[2] for step, _ in rows if step[0] == "read"}
    wrong, _ = scope_errors(value, [set()], notes)
    if wrong:
        return (min(wrong), "scope")
    figures = {step[3] for step, _ in rows if step[0] in ("line", "slide") and type(step[3]) is str}
    if len(figures - notes - {"left", "right"}) > 3:
        return (None, "operands")
    return None


def wanted_misfit(rule, steps):
    """What misfit has to return, told in another way than by the package."""
    turns = {name: abs(many) for name, many, _ in (*rule.body, *rule.slide)}
    sliding = [name for name, _, _ in rule.slide]
    for number, (step, _) in enumerate(numbered(steps)):
        if step[0] != "try":
            wrong = {
                "scale": step[1] not in turns,
                "slide": step[0] == "slide" and step[1] not in sliding,
                "stretch": step[0] != "read" and step[2] not in range(turns.get(step[1], 0)),
            }
            words = [word for word in ("scale", "slide", "stretch") if wrong[word]]
            if words:
                return (number, words[0])
    return None


def any_step(chance, names, notes, depth, most):
    word = chance.choice(("line", "line", "slide", "read", "read", "try" if depth < 2 and most > 1 else "line"))
    scale = chance.choice(("A", "D", "K", "B", "C", "CI", "ZZZ"))
    if word == "read":
        return (word, scale, chance.choice(notes))
    if word == "try":
        first = any_steps(chance, names, notes, depth + 1, most // 2) or (("read", scale, chance.choice(notes)),)
        return (word, first, any_steps(chance, names, notes, depth + 1, most // 2))
    figure = chance.choice((*names, *names, *names, *notes, "left", "right", any_mantissa(chance, 1)))
    return (word, scale, 0 if figure in ("left", "right") else chance.randrange(3), figure)


def any_steps(chance, names, notes, depth=0, most=6):
    steps = tuple(any_step(chance, names, notes, depth, most) for _ in range(chance.randint(0, most)))
    if chance.random() < 0.7:
        steps = (*steps, ("read", "D", chance.choice(notes)))
    return steps


def changed(chance, value):
    """The value with one part anywhere replaced by something else."""
    if type(value) is tuple and value and chance.random() < 0.85:
        at = chance.randrange(len(value))
        return (*value[:at], changed(chance, value[at]), *value[at + 1:])
    other = chance.choice((*ANYTHING, *NO_STEPS, "D", "x", 0, 1, 2, (1, 2), READ, (READ,), around((READ,))))
    if type(value) is tuple and chance.random() < 0.3:
        return list(value)
    return other


class InterfaceTest(unittest.TestCase):
    def test_example(self):
        self.assertEqual(
            [
                working_error(PRODUCT),
                working_error(PRODUCT[:3]),
                working_error((("line", "D", 0, "out"), ("read", "D", "out"))),
                operands_of(PRODUCT),
                misfit(Rule.common(), (("slide", "D", 0, "left"), ("read", "D", "r"))),
            ],
            [None, (None, "end"), (0, "scope"), ("x", "y"), (0, "slide")],
        )

    def test_arguments(self):
        told = {
            "working_error": "(value)",
            "misfit": "(rule, steps)",
            "operands_of": "(steps)",
            "notes_of": "(steps)",
            "count_steps": "(steps)",
        }
        for name, arguments in told.items():
            function = getattr(module, name)
            self.assertEqual(str(inspect.signature(function)), arguments)
            self.assertEqual(function.__module__, "offscale.steps")


class StepsCase(unittest.TestCase):
    def check(self, value, told):
        with self.subTest(value=value):
            self.assertEqual(wanted_error(value), told)
            result = working_error(value)
            self.assertEqual(result, told)
            if told is not None:
                self.assertIs(type(result), tuple)
                self.assertIn(type(result[0]), (int, type(None)))

    def check_step(self, step, word):
        """Check a step that is wrong by itself, at each place."""
        self.check((step,), (0, word))
        self.check((step, READ), (0, word))
        self.check((*PRODUCT, step), (4, word))
        self.check((*PRODUCT[:2], step, *PRODUCT[2:]), (2, word))
        self.check((PRODUCT[0], around((step,))), (2, word))
        self.check((PRODUCT[0], around((READ, step), ())), (3, word))
        self.check((PRODUCT[0], around((READ, READ), (READ, step)), READ), (5, word))
        self.check((around((around((PRODUCT[0], step)), READ)),), (3, word))
        self.check((around((READ,), (PRODUCT[1], around((READ,), (step,)))), READ), (5, word))


class WrongByItselfTest(StepsCase):
    def test_no_working(self):
        for value in (*ANYTHING, list(PRODUCT), [READ], {0: READ}, "line D x ; read D out"):
            if type(value) is not tuple:
                self.check(value, (None, "working"))

    def test_no_step(self):
        for step in NO_STEPS:
            self.check_step(step, "step")

    def test_values_of_all_kinds(self):
        for value in ANYTHING:
            if value != ("read", "D", "out"):
                self.check_step(value, "step")
            self.check_step((value,), "step")
            if value not in ("line", "read"):
                self.check_step((value, "D", "x"), "step")
                self.check_step((value, "D", 0, "x"), "step")

    def test_scale(self):
        for scale in NO_SCALE_NAMES:
            for figure in ("x", "left", None):
                self.check_step(("line", scale, 0, figure), "scale")
                self.check_step(("slide", scale, 9, figure), "scale")
                self.check_step(("read", scale, figure), "scale")

    def test_stretch(self):
        for stretch in NO_STRETCHES:
            for figure in ("x", "left", (1, 2), None):
                self.check_step(("line", "D", stretch, figure), "stretch")
                self.check_step(("slide", "D", stretch, figure), "stretch")

    def test_figure(self):
        for figure in NO_FIGURES:
            for stretch in (0, 1, 2):
                self.check_step(("line", "D", stretch, figure), "figure")
                self.check_step(("slide", "C", stretch, figure), "figure")

    def test_ends_with_a_stretch(self):
        for figure in ("left", "right"):
            for stretch in (1, 2):
                self.check_step(("line", "D", stretch, figure), "figure")
                self.check_step(("slide", "D", stretch, figure), "figure")
            self.check((("line", "D", 0, figure), ("slide", "C", 0, figure), READ), None)

    def test_name(self):
        for name in NO_NOTES:
            self.check_step(("read", "D", name), "name")

    def test_parts(self):
        for first, second in NO_PARTS:
            self.check_step(("try", first, second), "parts")

    def test_parts_comes_ahead_of_deep(self):
        self.check((around((around((around(()),)),)),), (2, "parts"))
        self.check((around((around((around((READ,), None),)),)),), (2, "parts"))

    def test_deep(self):
        deep = around((READ,))
        self.check((around((deep,)),), None)
        self.check((around((around((deep,)),)),), (2, "deep"))
        self.check((around((READ,), (around((READ,), (deep,)),)),), (4, "deep"))
        self.check((READ, around((deep, around((READ, deep)), deep))), (7, "deep"))
        # What is in a try that is too deep comes behind it.
        self.check((around((around((around((None,)),)),)),), (2, "deep"))
        self.check((around((around((None, deep)),)),), (2, "step"))

    def test_very_deep(self):
        steps = (READ,)
        for _ in range(150):
            steps = (around(steps),)
        self.assertEqual(working_error(steps), (2, "deep"))

    def test_the_first_one(self):
        self.check((("line", "D", 0, ""), ("read", "d", "out")), (0, "figure"))
        self.check((("line", "D", 0, "x"), ("read", "d", ""), None), (1, "scale"))
        self.check((around((READ, READ), (("read", "D", ""),)), None), (3, "name"))
        self.check((around((READ, around((READ,), (None,))), ([],)), 0), (4, "step"))

    def test_comes_ahead_of_all_others(self):
        self.check((*[READ] * 12, None), (12, "step"))
        self.check((("line", "D", 0, "out"), ("line", "D", 3, "x")), (1, "stretch"))
        self.check((*[("line", "D", 0, name) for name in "abcde"], ("line", "D", 0, "")), (5, "figure"))


class WholeTest(StepsCase):
    def test_no_steps(self):
        self.check((), (None, "end"))

    def test_many(self):
        line = ("line", "D", 0, "x")
        self.check((*[line] * 9, READ), None)
        self.check((*[line] * 10, READ), (None, "many"))
        self.check((*[line] * 11,), (None, "many"))
        self.check((around((line,) * 4, (line,) * 4), READ), None)
        self.check((around((line,) * 4, (line,) * 5), READ), (None, "many"))
        self.check((around((line, line), (line, around((line,) * 2, (line,) * 2))), READ), None)
        self.check((around((line, line), (line, around((line,) * 3, (line,) * 2))), READ), (None, "many"))
        self.check((line, around((around((READ,)), around((READ,))), (around((READ,)),))), (None, "many"))

    def test_many_comes_ahead_of_the_others(self):
        names = [("line", "D", 0, name) for name in ("out", "b", "c", "d", "e")]
        self.check((*names, *names, READ), (None, "many"))
        self.check((*names, *names, names[0]), (None, "many"))

    def test_end(self):
        line = ("line", "D", 0, "x")
        other = ("read", "D", "r")
        self.check((line,), (None, "end"))
        self.check((READ, line), (None, "end"))
        self.check((READ, ("slide", "C", 0, "x")), (None, "end"))
        self.check((around((READ,), ()),), (None, "end"))
        self.check((around((READ,), (line,)),), (None, "end"))
        self.check((around((line,), (READ,)),), (None, "end"))
        self.check((around((READ,)),), None)
        self.check((around((line,), ()), READ), None)
        self.check((around((READ,), (line, around((READ,)))),), None)
        self.check((around((READ,), (line, around((READ,), ()))),), (None, "end"))
        self.check((around((READ, around((other,), (line,)))),), (None, "end"))

    def test_end_comes_ahead_of_scope_and_operands(self):
        self.check((("line", "D", 0, "out"), READ, ("line", "D", 0, "x")), (None, "end"))
        self.check(tuple(("line", "D", 0, name) for name in "abcd"), (None, "end"))

    def test_operands(self):
        lines = tuple(("line", "D", 0, name) for name in ("a", "b", "c", "d"))
        self.check((*lines[:3], READ), None)
        self.check((*lines[:3], *lines[:3], READ), None)
        self.check((*lines, READ), (None, "operands"))
        self.check((*lines[:3], around((lines[3],), ()), READ), (None, "operands"))
        self.check((*lines[:3], around((lines[2],), (("slide", "C", 0, "e"),)), READ), (None, "operands"))
        self.check((*lines[:3], READ, ("line", "D", 0, "out"), ("read", "D", "e")), None)
        self.check((*lines[:3], ("line", "D", 0, "left"), ("line", "D", 0, (1, 2)), READ), None)

    def test_scope_comes_ahead_of_operands(self):
        lines = tuple(("line", "D", 0, name) for name in ("a", "b", "c", "d", "out"))
        self.check((*lines, READ), (4, "scope"))


class ScopeTest(StepsCase):
    def test_ahead_of_the_read(self):
        out = ("line", "D", 0, "out")
        self.check((out, READ), (0, "scope"))
        self.check((READ, out, ("read", "D", "end")), None)
        self.check((("slide", "C", 0, "out"), READ), (0, "scope"))
        self.check((("line", "D", 0, "x"), out, READ, ("line", "D", 0, "x"), ("read", "D", "x")), (0, "scope"))

    def test_noted_twice(self):
        other = ("read", "A", "out")
        self.check((READ, other), (1, "scope"))
        self.check((READ, around((other,), ()), ("read", "D", "r")), (2, "scope"))
        self.check((READ, around((("read", "D", "r"),), (other,)), ("read", "D", "s")), (3, "scope"))
        self.check((around((READ,), (other,)),), None)
        self.check((around((READ, around((other,)))),), (3, "scope"))
        self.check((around((READ,), (other,)), READ), (3, "scope"))

    def test_in_the_other_part(self):
        out, end = ("line", "D", 0, "out"), ("read", "D", "end")
        self.check((around((READ,), (out,)), end), (2, "scope"))
        self.check((around((out,), (READ,)), end), (1, "scope"))
        self.check((around((READ, out), (READ, out)), end), None)

    def test_behind_a_try(self):
        out, end = ("line", "D", 0, "out"), ("read", "D", "end")
        self.check((around((READ,), ()), out, end), (2, "scope"))
        self.check((around((READ,), (end,)), out, ("read", "D", "r")), (3, "scope"))
        self.check((around((end,), (READ,)), out, ("read", "D", "r")), (3, "scope"))
        self.check((around((READ,), (READ,)), out, end), None)
        self.check((around((READ,), (end, READ)), out, ("read", "D", "r")), None)
        # What just one part notes is not known behind the try, so it may be noted there.
        self.check((around((READ,), ()), READ), None)
        self.check((around((READ,), ()), READ, out, end), None)

    def test_tries_within_tries(self):
        out, end = ("line", "D", 0, "out"), ("read", "D", "end")
        both, one = around((READ,), (READ,)), around((READ,), ())
        self.check((around((both,), (READ,)), out, end), None)
        self.check((around((one,), (READ,)), out, end), (4, "scope"))
        self.check((around((both, out), (READ, out)), end), None)
        self.check((around((one, out), (READ, out)), end), (3, "scope"))
        self.check((around((READ,), (both, out)), end), None)
        self.check((around((READ,), (one, out)), end), (4, "scope"))
        self.check((READ, around((around((out,), (out,)), out), (out,)), end), None)
        self.check((READ, around((end, around((out,), (out,))), (("line", "D", 0, "end"),)), end), (6, "scope"))

    def test_the_first_step(self):
        out, end = ("line", "D", 0, "out"), ("line", "D", 0, "end")
        self.check((around((end,), (out,)), READ, ("read", "D", "end")), (1, "scope"))
        self.check((around((PRODUCT[0],), (out,)), end, READ, ("read", "D", "end")), (2, "scope"))

    def test_figures_that_are_no_notes(self):
        self.check((("line", "D", 0, "x"), READ, ("line", "D", 0, "x"), ("read", "D", "r")), None)
        self.check((("line", "D", 0, "left"), ("line", "D", 0, (0, 1)), ("line", "D", 2, (1, 3)), READ), None)


class AtRandomTest(StepsCase):
    def setUp(self):
        self.chance = random.Random(9)

    def test_steps(self):
        words = {}
        for _ in range(4000):
            names = self.chance.sample(("a", "b", "c", "d", "e", "zz"), self.chance.randint(1, 6))
            steps = any_steps(self.chance, names, ("out", "r", "s"), most=self.chance.randint(0, 8))
            told = wanted_error(steps)
            words[told and told[1]] = words.get(told and told[1], 0) + 1
            self.assertEqual(working_error(steps), told, steps)
        self.assertGreater(min(words.get(word, 0) for word in (None, "scope", "end", "many")), 20)

    def test_operands(self):
        for _ in range(300):
            names = [self.chance.choice("abcdef") for _ in range(self.chance.randint(1, 8))]
            lines = tuple(("line", "A", 1, name) for name in names)
            at = self.chance.randint(1, len(lines))
            told = None if len(set(names)) <= 3 else (None, "operands")
            self.check((around(lines[:at], lines[at:]), READ), told)
            self.check((*lines, READ), told)

    def test_changed_steps(self):
        words = {}
        for _ in range(6000):
            steps = any_steps(self.chance, ("x", "y"), ("out", "r", "s"), most=self.chance.randint(1, 5))
            for _ in range(self.chance.randint(1, 2)):
                steps = changed(self.chance, steps)
            told = wanted_error(steps)
            words[told and told[1]] = words.get(told and told[1], 0) + 1
            self.assertEqual(working_error(steps), told, steps)
        told = ("working", "step", "scale", "stretch", "figure", "name", "parts")
        self.assertGreater(min(words.get(word, 0) for word in told), 20)

    def test_fits(self):
        words = {}
        while len(words) < 4 or min(words.values()) < 50:
            body = tuple((name, self.chance.choice((-3, -2, -1, 1, 2, 3)), (0, 1)) for name in ("A", "D", "K", "ZZZ"))
            slide = tuple((name, self.chance.choice((-3, -2, -1, 1, 2, 3)), (1, 2)) for name in ("B", "C", "CI"))
            rule = Rule(body[:self.chance.randint(2, 4)], slide[:self.chance.randint(1, 3)])
            steps = any_steps(self.chance, ("a", "b"), ("out", "r", "s"), most=self.chance.randint(0, 3))
            if working_error(steps) is None:
                told = wanted_misfit(rule, steps)
                words[told and told[1]] = words.get(told and told[1], 0) + 1
                self.assertEqual(misfit(rule, steps), told, steps)

    def test_of_workings(self):
        found = 0
        while found < 300:
            names = self.chance.sample(("a", "b", "c", "d", "e", "zz"), 3)
            steps = any_steps(self.chance, names, ("out", "r", "s"))
            if working_error(steps) is None:
                found += 1
                rows = [step for step, _ in numbered(steps)]
                notes = {step[2] for step in rows if step[0] == "read"}
                figures = {step[3] for step in rows if step[0] in ("line", "slide") and type(step[3]) is str}
                self.assertEqual(notes_of(steps), tuple(sorted(notes)))
                self.assertEqual(operands_of(steps), tuple(sorted(figures - notes - {"left", "right"})))
                self.assertEqual(count_steps(steps), len(rows))


class OfWorkingsTest(unittest.TestCase):
    def test_some(self):
        steps = (
            ("line", "D", 0, "y"), ("read", "D", "out"), ("line", "D", 0, "out"),
            around((("slide", "C", 0, "right"), ("read", "D", "n")), (("line", "A", 1, "ab"), ("read", "D", "m"))),
            ("line", "D", 0, (1, 2)), ("read", "D", "end"),
        )
        self.assertIsNone(working_error(steps))
        self.assertEqual(operands_of(steps), ("ab", "y"))
        self.assertEqual(notes_of(steps), ("end", "m", "n", "out"))
        self.assertEqual(count_steps(steps), 10)

    def test_without_operands(self):
        steps = (("line", "D", 0, "left"), READ)
        self.assertEqual([operands_of(steps), notes_of(steps), count_steps(steps)], [(), ("out",), 2])

    def test_tries_within_tries(self):
        steps = (around((around((("line", "D", 0, "c"),), (("line", "D", 0, "b"),)),), (("line", "D", 0, "a"),)), READ)
        self.assertEqual([operands_of(steps), notes_of(steps), count_steps(steps)], [("a", "b", "c"), ("out",), 6])


class MisfitTest(unittest.TestCase):
    def check(self, rule, steps, told):
        with self.subTest(steps=steps):
            self.assertIsNone(working_error(steps))
            result = misfit(rule, steps)
            self.assertEqual(result, told)
            if told is not None:
                self.assertIs(type(result), tuple)

    def check_step(self, step, word):
        """Check a step that is the only one that does not fit, at each place."""
        rule, end, line = Rule.common(), ("read", "D", "end"), ("line", "D", 0, "x")
        self.check(rule, (step, end), (0, word))
        self.check(rule, (line, step, end), (1, word))
        self.check(rule, (around((step,), (line,)), end), (1, word))
        self.check(rule, (around((line,), (line, step)), end), (3, word))
        self.check(rule, (line, around((around((line,), (step,)),), ()), end), (4, word))
        self.check(rule, (around((line,), (around((line, step), ()),)), end), (4, word))

    def test_fits(self):
        rule = Rule.common()
        self.check(rule, PRODUCT, None)
        for name, turns, _ in (*rule.body, *rule.slide):
            for stretch in range(abs(turns)):
                self.check(rule, (("line", name, stretch, "x"), ("read", name, "out")), None)
                self.check(rule, (("line", name, 0, "right"), READ), None)
                told = None if rule.is_sliding(name) else (0, "slide")
                self.check(rule, (("slide", name, stretch, (1, 2)), ("read", name, "out")), told)

    def test_scale(self):
        for name in ("E", "DD", "L", "ZZZ"):
            self.check_step(("line", name, 0, "x"), "scale")
            self.check_step(("line", name, 2, (1, 2)), "scale")
            self.check_step(("slide", name, 2, "x"), "scale")
            self.check_step(("read", name, "out"), "scale")
        self.check(Rule((), ()), (READ,), (0, "scale"))

    def test_slide(self):
        for name in ("A", "D", "K"):
            self.check_step(("slide", name, 0, "left"), "slide")
            self.check_step(("slide", name, 2, "x"), "slide")

    def test_stretch(self):
        for name, turns in (("A", 2), ("D", 1), ("K", 3), ("B", 2), ("C", 1), ("CI", 1)):
            for stretch in range(turns, 3):
                self.check_step(("line", name, stretch, "x"), "stretch")
                self.check_step(("line", name, stretch, (1, 2)), "stretch")
        for name, stretch in (("B", 2), ("C", 1), ("CI", 1), ("CI", 2)):
            self.check_step(("slide", name, stretch, "x"), "stretch")

    def test_the_first_one(self):
        steps = (("line", "D", 1, "x"), ("slide", "A", 0, "x"), ("read", "E", "out"))
        self.check(Rule.common(), steps, (0, "stretch"))
        self.check(Rule.common(), steps[1:], (0, "slide"))
        self.check(Rule.common(), steps[2:], (0, "scale"))
        self.check(Rule.common(), (around((("line", "D", 0, "x"),), (steps[1],)), steps[2]), (2, "slide"))

    def test_other_rules(self):
        rule = Rule((("D", -1, (1, 2)),), (("A", 3, (1, 3)), ("C", -2, (0, 1))))
        self.check(rule, (("slide", "A", 2, "x"), ("line", "C", 1, "x"), READ), None)
        self.check(rule, (("slide", "D", 0, "x"), READ), (0, "slide"))
        self.check(rule, (("line", "C", 2, "x"), READ), (0, "stretch"))
        self.check(rule, (("line", "K", 0, "x"), READ), (0, "scale"))


if __name__ == "__main__":
    unittest.main()
