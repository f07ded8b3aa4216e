"""Values of all kinds for the tests, and a few helpers that several of them use."""

from fractions import Fraction

from offscale.errors import BadForm, NoScale
from offscale.forms import Form
from offscale.rules import Rule

DIGITS = 10 ** 39 + 7

INTEGERS = (0, 1, 2, 3, -1, -2, 4, 10, DIGITS, -DIGITS)

STRINGS = (
    "", "a", "x", "abc", "abcd", "A", "D", "CI", "left", "right", "line", "read", "1/2", "0", " ",
    "a b", "a\nb", "~" * 2000,
)

TUPLES = (
    (), (0,), (1, 2), (0, 1), (-1, 2), (2, 4), (1, 0), (1, 2, 3), (True, 2), (1, True), ("x",),
    ("x", (1, 2)), (("x", (1, 2)),), (None, None), ([], {}), ("D", 1, (0, 1)), (("D", 1, (0, 1)),),
    ("read", "D", "out"), (("read", "D", "out"),), ((((((((((),),),),),),),),),), tuple(range(1000)),
)

LISTS = ([], [1, 2], [0, 1], ["x"], [["x", [1, 2]]], [("x", (1, 2))], [("D", 1, (0, 1))], [None] * 999)

DICTS = ({}, {"x": (1, 2)}, {1: 2}, {"D": (1, (0, 1))}, {(1, 2): [3]})

# What the package itself makes: such values may be passed where anything may.
MADE = (Form(), Form((("x", (1, 2)),)), Rule.common(), Rule((), ()), BadForm(), NoScale("x"))

# A value of each kind that "any value" means.
ANYTHING = (*INTEGERS, True, False, None, *STRINGS, *TUPLES, *LISTS, *DICTS, *MADE)


def pair(value):
    """The tuple of one of Python's own exact fractions."""
    return (value.numerator, value.denominator)


def exact(one):
    """One of Python's own exact fractions for a tuple."""
    return Fraction(*one)


def any_fraction(chance, digits=2):
    """A fraction with parts of at most so many digits; zero now and then."""
    if chance.random() < 0.1:
        return (0, 1)
    most = 10 ** digits - 1
    return pair(Fraction(chance.randint(-most, most), chance.randint(1, most)))


def any_mantissa(chance, digits=2):
    """A fraction from 0 to below 1."""
    top, bottom = any_fraction(chance, digits)
    return pair(Fraction(top % bottom, bottom))
