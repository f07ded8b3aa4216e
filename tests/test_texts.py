"""Point [10]: texts of workings, written and read back."""

import inspect
import random
import re
import unittest
from itertools import product
from math import gcd

from offscale import texts
from offscale.errors import BadText, BadWorking
from offscale.steps import working_error
from offscale.texts import read_working, working_text
from samples import ANYTHING, DIGITS
from workings import any_part, any_rule, any_working, written

LONG = "9" * 40
STEP = re.compile(
    r"(?<!\S)(?:(?:line|slide) (?:[A-Z]{1,3} (?:left|right)|[A-Z]{1,3}(?:\.[12])? (?:[a-z]{1,3}|([0-9/]+)))"
    r"|read [A-Z]{1,3} [a-z]{1,3})(?!\S)"
)
NUMERAL = "(?:0|[1-9][0-9]{0,39})"
# What may be put behind the pieces of a text that has begun, to come to its end.
REST = (
    "", "x", "D x", "read D x", "{ read D x } else { }", "read D x } else { }", "} else { }", "}", "else { }", "{ }",
)
CLOSERS = ("} else { }", "}")


def own_text(steps):
    """The text of steps, told in another way than by the package."""
    parts = []
    for step in steps:
        if step[0] == "try":
            inner = [f"{{ {own_text(part)} }}".replace("  ", " ") for part in step[1:]]
            parts.append(f"try {inner[0]} else {inner[1]}")
        elif step[0] == "read":
            parts.append(f"read {step[1]} {step[2]}")
        else:
            scale = step[1] + ("" if step[2] == 0 else "." + str(step[2]))
            parts.append(f"{step[0]} {scale} {step[3] if isinstance(step[3], str) else '%d/%d' % step[3]}")
    return " ; ".join(parts)


def one_step(found):
    """A sign for the text of a step that is no try, or the text itself if its mark is none."""
    mark = found.group(1)
    if mark is None:
        return "@"
    if re.fullmatch(NUMERAL + "/" + NUMERAL, mark):
        top, bottom = map(int, mark.split("/"))
        if top < bottom and gcd(top, bottom) == 1:
            return "@"
    return found.group(0)


def is_text(text):
    """Whether a text is one of one or more steps, by putting a sign in the place of each part of it."""
    last, text = None, STEP.sub(one_step, text)
    while text != last:
        last = text
        for part in ("@ ; @", "try { @ } else { @ }", "try { @ } else { }"):
            text = text.replace(part, "@")
    return text == "@"


def goes_on(pieces):
    """Whether some text begins with these pieces, of which no more than three braces are open."""
    for rest, many in product(REST, range(4)):
        for closers in product(CLOSERS, repeat=many):
            if is_text(" ".join([*pieces, *([rest] if rest else []), *closers])):
                return True
    return False


class TextCase(unittest.TestCase):
    def setUp(self):
        self.chance = random.Random(10)

    def check_place(self, text, place):
        with self.subTest(text=text):
            with self.assertRaises(BadText) as caught:
                read_working(text)
            self.assertEqual(caught.exception.place, place)

    def check_error(self, text, error):
        with self.subTest(text=text):
            with self.assertRaises(BadWorking) as caught:
                read_working(text)
            self.assertEqual(caught.exception.error, error)

    def working(self):
        return any_working(self.chance, any_rule(self.chance), self.chance.randint(1, 10))


class InterfaceTest(TextCase):
    def test_example(self):
        steps = (("try", (("line", "A", 1, "x"),), ()), ("line", "K", 0, (1, 3)), ("read", "D", "out"))
        self.assertEqual(
            [working_text(steps), read_working("line D x ; read D out")],
            [
                "try { line A.1 x } else { } ; line K 1/3 ; read D out",
                (("line", "D", 0, "x"), ("read", "D", "out")),
            ],
        )
        self.check_place("line D x ; read A.1 out", 5)

    def test_arguments(self):
        for name, arguments in (("working_text", "(steps)"), ("read_working", "(value)")):
            self.assertEqual(str(inspect.signature(getattr(texts, name))), arguments)
            self.assertEqual(getattr(texts, name).__module__, "offscale.texts")


class WriteTest(TextCase):
    def test_each_step(self):
        read = ("read", "D", "out")
        for step, text in (
            (("line", "D", 0, "x"), "line D x"), (("slide", "CI", 0, "abc"), "slide CI abc"),
            (("line", "A", 1, "x"), "line A.1 x"), (("slide", "KLM", 2, "x"), "slide KLM.2 x"),
            (("line", "D", 0, "left"), "line D left"), (("slide", "C", 0, "right"), "slide C right"),
            (("line", "A", 1, (1, 3)), "line A.1 1/3"), (("line", "A", 0, (0, 1)), "line A 0/1"),
            (("try", (read,), ()), "try { read D out } else { }"),
            (("try", (read, ("line", "D", 0, "x")), (("line", "D", 0, "y"), ("line", "D", 0, "z"))),
             "try { read D out ; line D x } else { line D y ; line D z }"),
            (("try", (("try", (("line", "D", 0, "x"),), ()),), (("try", (read,), ()),)),
             "try { try { line D x } else { } } else { try { read D out } else { } }"),
        ):
            self.assertEqual(working_text((step, ("read", "A", "end"))), text + " ; read A end")
            self.assertEqual(read_working(text + " ; read A end"), (step, ("read", "A", "end")))
        self.assertEqual(working_text((read,)), "read D out")

    def test_at_random(self):
        for _ in range(500):
            steps = self.working()
            text = working_text(steps)
            self.assertIs(type(text), str)
            self.assertEqual(text, own_text(steps))
            self.assertEqual(read_working(text), steps)
            self.assertTrue(is_text(text))

    def test_long_marks(self):
        for mark in ((DIGITS - 1, DIGITS), (10 ** 39, 10 ** 40 - 1), (0, 1), (1, 10 ** 39)):
            steps = (("line", "D", 0, mark), ("read", "D", "out"))
            self.assertEqual(read_working(working_text(steps)), steps)
        # Such a mark can be written, but a text may not have one.
        steps = (("line", "D", 0, (1, 10 ** 40)), ("read", "D", "out"))
        self.assertEqual(working_text(steps), f"line D 1/1{'0' * 40} ; read D out")
        self.check_place(working_text(steps), 2)


class KindTest(TextCase):
    def test_no_string(self):
        for value in ANYTHING:
            if type(value) is not str:
                self.check_place(value, None)
        self.check_place(("line D x ; read D out",), None)
        self.check_place([["read D out"]], None)

    def test_strings_of_all_kinds(self):
        for value in ANYTHING:
            if type(value) is str:
                self.check_place(value, 1 if value in ("line", "read") else 0)


class PlaceTest(TextCase):
    def test_nothing(self):
        self.check_place("", 0)
        self.check_place(" ", 0)
        self.check_place("     ", 0)

    def test_spaces(self):
        self.check_place(" read D out", 0)
        self.check_place("read D out ", 3)
        self.check_place("read  D out", 1)
        self.check_place("read D  out", 2)
        self.check_place("read D out  ; read D q", 3)
        self.check_place("read D\tout", 1)
        self.check_place("read D\nout", 1)
        self.check_place("read\nD out", 0)
        self.check_place("read D out\n", 2)
        self.check_place("read D out;", 2)
        self.check_place("read D out; read D q", 2)

    def test_more_must_follow(self):
        whole = "try { line A.1 x ; read D a } else { slide C 1/3 ; read D b } ; read D c".split(" ")
        for many in range(len(whole) + 1):
            text = " ".join(whole[:many])
            if many in (20, 24):
                self.assertEqual(working_text(read_working(text)), text)
            else:
                self.check_place(text, many)

    def test_scales(self):
        for scale in ("", "d", "Dx", "ABCD", "D.", "D.0", "D.3", "D.01", "D.1.1", "D.x", "D.-1", "D,1", ".1", "D. 1",
                      "D1", "D.11", "D.+1", "left", "x", "1/2", ";", "{", "}", "D..1", "-D"):
            self.check_place(f"line {scale} x ; read D out", 1)
            self.check_place(f"read A a ; slide {scale} x ; read D out", 5)
        for scale in ("D.1", "D.2", "D.", "ABC.1", "D.0"):
            self.check_place(f"read {scale} out", 1)
        for scale in ("D", "AB", "KLM", "D.1", "D.2", "KLM.2"):
            self.assertEqual(working_text(read_working(f"line {scale} x ; read D out")), f"line {scale} x ; read D out")

    def test_figures(self):
        for figure in ("", "abcd", "X", "x1", "Left", "LEFT", "1", "0", "1/", "/2", "/", "1/1", "2/1", "2/4",
                       "0/2", "00/1", "01/2", "1/02", "-1/2", "1/-2", "+1/2", "1/2/3", "1 /2", "1/0", "0/0", "1_0/11",
                       "1.0/2", "x/2", "1/x", ";", "}", "{", "left.1", "1e0/2", LONG + "0/" + LONG + "1",
                       "1/" + LONG + "0", "0" * 41 + "/1", "1/2,", "9" * 1000 + "/1"):
            self.check_place(f"line D {figure} ; read D out", 2)
            self.check_place(f"slide C.1 {figure} ; read D out", 2)
        for figure in ("x", "lef", "try", "end", "1/2", "0/1", "1/" + LONG, LONG[:-1] + "8/" + LONG):
            text = f"line D {figure} ; slide C.1 {figure} ; read D out"
            self.assertEqual(working_text(read_working(text)), text)

    def test_ends_behind_a_stretch(self):
        for figure in ("left", "right"):
            for scale in ("D.1", "CI.2"):
                self.check_place(f"line {scale} {figure} ; read D out", 2)
                self.check_place(f"slide {scale} {figure} ; read D out", 2)
            self.assertEqual(read_working(f"line D {figure} ; read D out")[0], ("line", "D", 0, figure))

    def test_names(self):
        for name in ("", "left", "right", "abcd", "X", "x1", "1/2", "0/1", ";", "}", "x.1", "."):
            self.check_place(f"read D {name}", 2)
            self.check_place(f"read D {name} ; read D b", 2)
        for name in ("a", "try", "els", "zzz"):
            self.assertEqual(read_working(f"read D {name}"), (("read", "D", name),))

    def test_words(self):
        for word in ("", "lines", "Line", "LINE", "lin", "x", "D", "else", "{", "}", ";", "left", "1/2", "read;"):
            self.check_place(f"{word} D x ; read D out", 0)
            self.check_place(f"line D x ; {word} D x", 4)
            self.check_place("try { " + word + " D x } else { } ; read D a", 2)

    def test_tries(self):
        self.check_place("try { } else { read D a }", 2)
        self.check_place("try { } else { } ; read D a", 2)
        self.check_place("try { line D x } ; read D a", 6)
        self.check_place("try { line D x } { read D a }", 6)
        self.check_place("try line D x", 1)
        self.check_place("try { line D x ; } else { }", 6)
        self.check_place("try { line D x else { }", 5)
        self.check_place("try { line D x } else line", 7)
        self.check_place("try { line D x } else { ; } ; read D a", 8)
        self.check_place("try { line D x } else { read D a ; } ; read D a", 12)
        self.check_place("try { line D x } else { read D a } }", 12)
        self.check_place("try { line D x } else { read D a } else { }", 12)
        self.check_place("try { line D x } else { } }", 9)
        self.check_place("try { line D x } else { } read D a", 9)
        self.check_place("try { read D a } else { read D a", 11)
        self.check_place("read D a }", 3)
        self.check_place("read D a else", 3)
        self.check_place("line D x read D a", 3)
        self.check_place("read D a ; ; read D b", 4)
        self.check_place("; read D a", 0)
        self.check_place("{ read D a }", 0)
        self.check_place("try {} else { }", 1)

    def test_deep(self):
        for deep in (3, 20, 300, 3000):
            text = "try { " * deep + "line D x" + " } else { }" * deep + " ; read D a"
            self.check_error(text, (2, "deep"))
            self.check_place(text + " }", 2 * deep + 3 + 4 * deep + 4)
            self.check_place("try { " * deep + "}", 2 * deep)
            self.check_place("try { " * deep + "line D x", 2 * deep + 3)
            text = "try { read D a } else { " * deep + "}" + " }" * (deep - 1)
            self.check_error(text, (4, "deep"))
            self.check_place(text[:-2], 9 * deep - 1)


class ChangedTest(TextCase):
    """Texts with one change, against a way to tell texts that puts signs in the place of their parts."""

    def check_text(self, text):
        pieces = text.split(" ") if text else []
        try:
            steps = read_working(text)
            self.assertTrue(is_text(text), text)
            self.assertEqual(own_text(steps), text)
        except BadWorking as error:
            self.assertTrue(is_text(text), text)
            self.assertIsNotNone(error.error)
        except BadText as error:
            place = error.place
            with self.subTest(text=text, place=place):
                self.assertFalse(is_text(text))
                self.assertIs(type(place), int)
                self.assertTrue(goes_on(pieces[:place]))
                if place < len(pieces):
                    self.assertFalse(goes_on(pieces[:place + 1]))
                else:
                    self.assertEqual(place, len(pieces))

    def test_the_other_way(self):
        self.assertTrue(goes_on([]))
        self.assertTrue(goes_on(["try", "{"]))
        self.assertFalse(goes_on(["try", "{", "}"]))
        self.assertFalse(is_text("line D 2/4"))
        self.assertTrue(is_text("line D.2 1/4"))

    def test_at_random(self):
        more = ("", ";", "{", "}", "else", "try", "line", "read", "D", "D.1", "D.3", "x", "left", "1/2", "2/2", "01/2")
        for _ in range(400):
            part, _ = any_part(self.chance, any_rule(self.chance), "xyz", (), self.chance.randint(1, 6), 0)
            pieces = own_text(part).split(" ")
            at, other = self.chance.randrange(len(pieces)), self.chance.randrange(len(pieces))
            for changed in (
                pieces[:at] + pieces[at + 1:],
                pieces[:at] + [self.chance.choice(more)] + pieces[at:],
                pieces[:at] + [self.chance.choice(more)] + pieces[at + 1:],
                pieces[:at] + [pieces[at]] + pieces[at:],
                pieces[:at] + [pieces[other]] + pieces[at + 1:],
                pieces[:at],
                pieces[at:],
            ):
                self.check_text(" ".join(changed))


class NoWorkingTest(TextCase):
    def test_some(self):
        for text, error in (
            ("line D x", (None, "end")),
            ("try { read D a } else { }", (None, "end")),
            ("read D a ; line D a", (None, "end")),
            (" ; ".join(["line D x"] * 10 + ["read D a"]), (None, "many")),
            (" ; ".join(["line D x"] * 11), (None, "many")),
            ("line D a ; read D a", (0, "scope")),
            ("read D a ; read D a", (1, "scope")),
            ("try { read D a } else { } ; line D a ; read D b", (2, "scope")),
            ("line D w ; line D x ; line D y ; line D z ; read D a", (None, "operands")),
            ("try { try { try { line D w } else { } } else { } } else { } ; read D a", (2, "deep")),
            ("line D a ; line D w ; line D x ; line D y ; line D z ; read D a", (0, "scope")),
        ):
            self.check_error(text, error)

    def test_at_random(self):
        words = {}
        for _ in range(1500):
            size = self.chance.randint(1, 11)
            steps, _ = any_part(self.chance, any_rule(self.chance), "wxyz", (), size, self.chance.choice((-2, 0)))
            if self.chance.random() < 0.2:
                at = self.chance.randint(0, len(steps))
                steps = (*steps[:at], ("line", "D", 0, "end"), *steps[at:])
            if self.chance.random() < 0.5:
                steps = (*steps, ("read", "D", "end"))
            error = working_error(steps)
            if error is None:
                self.assertEqual(read_working(own_text(steps)), steps)
            else:
                self.check_error(own_text(steps), error)
                words[error[1]] = words.get(error[1], 0) + 1
        self.assertGreater(min(words.get(word, 0) for word in ("many", "end", "scope", "operands", "deep")), 5)

    def test_equal_calls(self):
        for _ in range(20):
            text = own_text(self.working())
            self.assertEqual(read_working(text), read_working(text))

    def test_the_numbers(self):
        steps = (("try", (("read", "D", "a"),), (("line", "A", 1, "x"), ("read", "D", "a"))), ("read", "D", "out"))
        self.assertEqual(len(written(steps)), 5)
        self.assertEqual(read_working(own_text(steps)), steps)


if __name__ == "__main__":
    unittest.main()
