"""Points [17] and [2] (f): desks, their deeds, and that every wish on them is kept."""

import inspect
import random
import unittest

from offscale.bounds import MAX_DEEDS, MAX_OPERANDS
from offscale.claims import meets, runs_off, wish_error
from offscale.desks import Desk
from offscale.errors import (
    BadName, BadWish, BadWorking, Busy, Full, Misfit, NoScale, NothingToUndo, NotRule, NoWorking, TooMany, Unkept,
)
from offscale.rules import COMMON_BODY, COMMON_SLIDE, Rule
from offscale.steps import misfit, working_error
from samples import ANYTHING
from workings import BOTH, COMMON, PRODUCT, QUOTIENT, READ

SQUARE = (("line", "D", 0, "x"), ("read", "A", "out"))
ROOT = (("line", "A", 0, "x"), READ)
MULTIPLY = (1, (("x", 1), ("y", 1)), (0, 1))
DIVIDE = (1, (("x", 1), ("y", -1)), (0, 1))
TWICE = (1, (("x", 2),), (0, 1))
HALF = (2, (("x", 1),), (0, 1))

# Rules that have other scales, or that have the same ones with other figures.
BARE = Rule(COMMON_BODY, ())
FOLDED = Rule((("A", 2, (1, 2)), *COMMON_BODY[1:]), COMMON_SLIDE)
MORE = Rule((*COMMON_BODY, ("L", 1, (1, 3))), COMMON_SLIDE)

NO_NAMES = (*[value for value in ANYTHING if value not in ("a", "x", "abc")], "left", "ABC", "a1", "a b", ["a"], ("a",))


class Stop(BaseException):
    """An exception that is none of Python's usual ones."""


class DeskCase(unittest.TestCase):
    def desk(self):
        """A desk with three workings and two wishes, made by five deeds."""
        desk = Desk(COMMON)
        desk["mul"] = BOTH
        desk["sq"] = SQUARE
        desk["p"] = PRODUCT
        desk.wish("mul", MULTIPLY)
        desk.wish("sq", TWICE)
        return desk

    def told(self, desk):
        """All that a desk tells."""
        rows = [(name, desk[name], desk.wish_of(name)) for name in desk.names]
        return (desk.rule, rows, desk.version, len(desk), str(desk))

    def check_error(self, desk, deed, kind, **wanted):
        """Check that a deed is refused and that nothing changes."""
        before = self.told(desk)
        with self.assertRaises(kind) as caught:
            deed()
        self.assertIs(type(caught.exception), kind)
        self.assertEqual(vars(caught.exception), wanted)
        self.assertEqual(self.told(desk), before)

    def check_kept(self, desk):
        """Check what holds of a desk at each moment."""
        for name in desk.names:
            self.assertIsNone(working_error(desk[name]))
            self.assertIsNone(misfit(desk.rule, desk[name]))
            if desk.wish_of(name) is not None:
                self.assertIsNone(runs_off(desk.rule, desk[name]))
                self.assertIsNone(meets(desk.rule, desk[name], desk.wish_of(name)))

    def put(self, desk, name, steps):
        def deed():
            desk[name] = steps

        return deed

    def full(self):
        """A desk with as many deeds as there may be."""
        desk = self.desk()
        while desk.version < MAX_DEEDS:
            desk.wish("p")
        return desk


class InterfaceTest(DeskCase):
    def test_example(self):
        desk = Desk(Rule.common())
        desk["get"] = SQUARE
        self.assertEqual(
            [desk.wish("get", (1, (("x", 2),), (0, 1))), desk.names, str(desk), desk.undo(), desk.wish_of("get")],
            [2, ("get",), "1 workings, 1 wishes, 2 deeds", 1, None],
        )

    def test_arguments(self):
        self.assertEqual(Desk.__module__, "offscale.desks")
        self.assertEqual(str(inspect.signature(Desk)), "(rule)")
        told = {
            "change_rule": "(self, other)", "drop": "(self, name)", "wish": "(self, name, wish=None)",
            "wish_of": "(self, name)", "undo": "(self)", "together": "(self, function)",
        }
        for name, arguments in told.items():
            self.assertEqual(str(inspect.signature(vars(Desk)[name])), arguments)

    def test_all_stands_in_the_class_itself(self):
        for name in ("__getitem__", "__setitem__", "__contains__", "__len__", "__eq__", "__str__"):
            self.assertIn(name, vars(Desk))
        for name in ("rule", "names", "version"):
            self.assertIsInstance(vars(Desk)[name], property)
            with self.assertRaises(AttributeError):
                setattr(Desk(COMMON), name, None)

    def test_new(self):
        desk = Desk(COMMON)
        self.assertEqual(self.told(desk), (COMMON, [], 0, 0, "0 workings, 0 wishes, 0 deeds"))
        self.assertIs(desk.rule, COMMON)
        for value in ANYTHING:
            if not isinstance(value, Rule):
                with self.assertRaises(NotRule):
                    Desk(value)


class TellTest(DeskCase):
    def test_what_it_tells(self):
        desk = self.desk()
        self.assertEqual(desk.names, ("mul", "p", "sq"))
        self.assertEqual([desk["mul"], desk["p"], desk["sq"]], [BOTH, PRODUCT, SQUARE])
        self.assertEqual([desk.wish_of("mul"), desk.wish_of("p"), desk.wish_of("sq")], [MULTIPLY, None, TWICE])
        self.assertEqual((desk.version, len(desk), str(desk)), (5, 3, "3 workings, 2 wishes, 5 deeds"))

    def test_in(self):
        desk = self.desk()
        for value in (*NO_NAMES, "a", "x", "abc", "out", "pp"):
            self.assertIs(value in desk, False)
        for name in ("mul", "p", "sq"):
            self.assertIs(name in desk, True)

    def test_names_that_it_has_not(self):
        desk = self.desk()
        for value in (*NO_NAMES, "a", "x", "abc", "out"):
            for call in (
                lambda: desk[value], lambda: desk.wish_of(value), lambda: desk.drop(value), lambda: desk.wish(value),
                lambda: desk.wish(value, None), lambda: desk.wish(value, 5), lambda: desk.wish(value, TWICE),
            ):
                self.check_error(desk, call, NoWorking, name=value)

    def test_it_is_not_iterated_over(self):
        with self.assertRaises(TypeError):
            list(self.desk())

    def test_equal(self):
        one, other = self.desk(), self.desk()
        self.assertTrue(one == other and not one != other)
        # The deeds do not count, nor the order of the names.
        other.drop("mul")
        self.assertFalse(one == other)
        other["mul"] = BOTH
        self.assertFalse(one == other)
        other.wish("mul", MULTIPLY)
        self.assertTrue(one == other)
        self.assertNotEqual(one.version, other.version)
        other.change_rule(MORE)
        self.assertFalse(one == other)
        one.change_rule(Rule(MORE.body, MORE.slide))
        self.assertTrue(one == other)
        other["p"] = ROOT
        self.assertFalse(one == other)
        self.assertTrue(Desk(COMMON) == Desk(Rule.common()))
        self.assertFalse(Desk(COMMON) == Desk(BARE))

    def test_equal_to_nothing_else(self):
        for desk in (Desk(COMMON), self.desk()):
            for value in (*ANYTHING, COMMON, str(desk), {"mul": BOTH}):
                self.assertFalse(desk == value)
                self.assertTrue(desk != value)


class PutTest(DeskCase):
    def test_in_the_place_of_another(self):
        desk = self.desk()
        desk["p"] = QUOTIENT
        desk["sq"] = (("line", "D", 0, "x"), ("read", "B", "n"))
        self.assertEqual((desk["p"], desk["sq"][1][2], desk.wish_of("sq")), (QUOTIENT, "n", TWICE))
        self.assertEqual((desk.version, len(desk)), (7, 3))
        self.check_kept(desk)
        self.assertEqual(desk.undo(), 6)
        self.assertEqual(desk["sq"], SQUARE)
        self.assertEqual(desk.undo(), 5)
        self.assertEqual(desk, self.desk())

    def test_refused(self):
        desk = self.desk()
        for value in NO_NAMES:
            self.check_error(desk, self.put(desk, value, BOTH), BadName, name=value)
            self.check_error(desk, self.put(desk, value, None), BadName, name=value)
        for value in (*ANYTHING, PRODUCT[:3], list(BOTH)):
            error = working_error(value)
            if error is not None:
                self.check_error(desk, self.put(desk, "sq", value), BadWorking, error=error)
        for steps in ((("slide", "D", 0, "x"), READ), (("line", "A", 2, "x"), READ), (("read", "F", "n"),)):
            number, word = misfit(COMMON, steps)
            self.check_error(desk, self.put(desk, "sq", steps), Misfit, number=number, word=word)
        self.check_error(desk, self.put(desk, "sq", ROOT), Unkept, name="sq")
        # All readings meet the wish, but some runs go off.
        self.check_error(desk, self.put(desk, "mul", PRODUCT), Unkept, name="mul")
        self.assertIsNone(meets(COMMON, PRODUCT, MULTIPLY))

    def test_too_many(self):
        desk = self.desk()
        four = (("line", "D", 0, "p"), ("line", "D", 0, "q"), *BOTH[1:])
        desk["p"] = four
        more = (("line", "D", 0, "p"), ("line", "D", 0, "q"), ("line", "D", 0, "r"), *SQUARE[1:])
        self.check_error(desk, self.put(desk, "sq", more), TooMany, limit=MAX_OPERANDS)
        desk["sq"] = (("line", "D", 0, "p"), ("line", "D", 0, "q"), *SQUARE)
        self.check_kept(desk)
        # The note x of a working is not the operand x of its wish.
        note = (*more[:3], ("read", "D", "x"))
        self.check_error(desk, self.put(desk, "sq", note), TooMany, limit=MAX_OPERANDS)


class DropTest(DeskCase):
    def test_drop(self):
        desk = self.desk()
        self.assertEqual(desk.drop("sq"), 6)
        self.assertEqual((desk.names, str(desk)), (("mul", "p"), "2 workings, 1 wishes, 6 deeds"))
        self.check_error(desk, lambda: desk.wish_of("sq"), NoWorking, name="sq")
        desk["sq"] = ROOT
        self.assertIsNone(desk.wish_of("sq"))
        self.assertEqual([desk.undo(), desk.undo()], [6, 5])
        self.assertEqual(desk, self.desk())


class WishTest(DeskCase):
    def test_set_and_removed(self):
        desk = self.desk()
        self.assertEqual(desk.wish("sq"), 6)
        self.assertIsNone(desk.wish_of("sq"))
        self.assertEqual(desk.wish("sq", None), 7)
        self.assertEqual(desk.wish("sq", TWICE), 8)
        self.assertEqual(desk.wish("mul", (2, (("x", 2), ("y", 2)), (0, 1))), 9)
        self.assertEqual(desk.wish_of("mul"), (2, (("x", 2), ("y", 2)), (0, 1)))
        self.check_kept(desk)
        self.assertEqual([desk.undo(), desk.wish_of("mul")], [8, MULTIPLY])
        self.assertEqual([desk.undo(), desk.wish_of("sq")], [7, None])
        self.assertEqual([desk.undo(), desk.undo(), desk.wish_of("sq")], [6, 5, TWICE])

    def test_refused(self):
        desk = self.desk()
        for value in (*ANYTHING, (0, (), (0, 1)), (1, (("x", 5),), (0, 1)), (1, (), (1, 1))):
            if value is not None:
                self.check_error(desk, lambda: desk.wish("sq", value), BadWish, word=wish_error(value))
        many = (1, (("p", 1), ("q", 1), ("r", 1)), (0, 1))
        self.check_error(desk, lambda: desk.wish("sq", many), TooMany, limit=MAX_OPERANDS)
        for name, wish in (("sq", HALF), ("sq", many[:1] + ((("q", 1),), (0, 1))), ("p", MULTIPLY), ("mul", DIVIDE)):
            self.check_error(desk, lambda: desk.wish(name, wish), Unkept, name=name)

    def test_one_that_has_further_names(self):
        desk = Desk(COMMON)
        desk["a"] = (("line", "D", 0, "left"), READ)
        self.check_error(desk, lambda: desk.wish("a", (1, (("x", 1),), (0, 1))), Unkept, name="a")
        self.assertEqual(desk.wish("a", (1, (), (0, 1))), 2)


class RuleTest(DeskCase):
    def test_change(self):
        desk = self.desk()
        self.assertEqual(desk.change_rule(MORE), 6)
        self.assertIs(desk.rule, MORE)
        self.check_kept(desk)
        desk["l"] = (("line", "L", 0, "x"), ("read", "L", "n"))
        self.check_error(desk, lambda: desk.change_rule(COMMON), Misfit, number=0, word="scale")
        self.assertEqual([desk.undo(), desk.undo()], [6, 5])
        self.assertEqual(desk.rule, COMMON)

    def test_refused(self):
        desk = self.desk()
        for value in ANYTHING:
            if not isinstance(value, Rule):
                self.check_error(desk, lambda: desk.change_rule(value), NotRule)
        # The first name is mul, whose step 2 is the first one that does not fit.
        self.check_error(desk, lambda: desk.change_rule(BARE), Misfit, number=2, word="scale")
        desk.drop("mul")
        self.check_error(desk, lambda: desk.change_rule(BARE), Misfit, number=1, word="scale")
        desk.drop("p")
        self.assertEqual(desk.change_rule(BARE), 8)

    def test_unkept(self):
        desk = self.desk()
        self.check_error(desk, lambda: desk.change_rule(FOLDED), Unkept, name="sq")
        desk["aa"] = SQUARE
        desk.wish("aa", TWICE)
        self.check_error(desk, lambda: desk.change_rule(FOLDED), Unkept, name="aa")
        desk["zz"] = (("read", "CI", "n"),)
        self.check_error(
            desk, lambda: desk.change_rule(Rule(FOLDED.body, COMMON_SLIDE[:2])), Misfit, number=0, word="scale",
        )
        desk.wish("aa")
        self.check_error(desk, lambda: desk.change_rule(FOLDED), Unkept, name="sq")
        desk.wish("sq")
        self.assertEqual(desk.change_rule(FOLDED), 11)
        self.check_kept(desk)


class FullTest(DeskCase):
    def test_as_many_as_there_may_be(self):
        desk = self.full()
        self.assertEqual(desk.version, MAX_DEEDS)
        for deed in (
            lambda: desk.wish("p"), lambda: desk.wish("sq", TWICE), lambda: desk.drop("p"),
            lambda: desk.change_rule(COMMON), self.put(desk, "p", ROOT), self.put(desk, "new", BOTH),
        ):
            self.check_error(desk, deed, Full)
        self.assertEqual([desk.undo(), desk.drop("p")], [MAX_DEEDS - 1, MAX_DEEDS])
        self.check_error(desk, lambda: desk.drop("sq"), Full)
        for version in range(MAX_DEEDS - 1, -1, -1):
            self.assertEqual(desk.undo(), version)
        self.assertEqual(self.told(desk), self.told(Desk(COMMON)))

    def test_the_order_of_errors(self):
        desk = self.full()
        self.check_error(desk, lambda: desk.change_rule(None), NotRule)
        self.check_error(desk, lambda: desk.change_rule(BARE), Misfit, number=2, word="scale")
        self.check_error(desk, lambda: desk.change_rule(FOLDED), Full)
        self.check_error(desk, self.put(desk, "Q", None), BadName, name="Q")
        self.check_error(desk, self.put(desk, "q", ()), BadWorking, error=(None, "end"))
        self.check_error(desk, self.put(desk, "q", (("read", "Q", "n"),)), Misfit, number=0, word="scale")
        many = tuple(("line", "D", 0, name) for name in "pqr")
        self.check_error(desk, self.put(desk, "sq", (*many, READ)), TooMany, limit=MAX_OPERANDS)
        self.check_error(desk, self.put(desk, "p", (*many, READ)), Full)
        self.check_error(desk, self.put(desk, "sq", ROOT), Full)
        self.check_error(desk, lambda: desk.drop("q"), NoWorking, name="q")
        self.check_error(desk, lambda: desk.wish("q", 5), NoWorking, name="q")
        self.check_error(desk, lambda: desk.wish("sq", 5), BadWish, word="wish")
        self.check_error(desk, lambda: desk.wish("sq", (1, tuple((n, 1) for n in "pqr"), (0, 1))), TooMany, limit=3)
        self.check_error(desk, lambda: desk.wish("sq", HALF), Full)


class UndoTest(DeskCase):
    def test_every_kind(self):
        desk, seen = Desk(COMMON), []
        deeds = (
            self.put(desk, "sq", SQUARE), lambda: desk.wish("sq", TWICE), self.put(desk, "mul", BOTH),
            lambda: desk.change_rule(MORE), self.put(desk, "sq", (SQUARE[0], ("read", "A", "n"))),
            lambda: desk.wish("sq"), lambda: desk.wish("sq"), lambda: desk.drop("sq"), lambda: desk.change_rule(MORE),
            lambda: desk.together(lambda same: [same.drop("mul"), same.change_rule(COMMON)]),
        )
        for deed in deeds:
            seen.append(self.told(desk))
            deed()
        self.assertEqual(desk.version, len(deeds))
        for version in range(len(deeds) - 1, -1, -1):
            self.assertEqual(desk.undo(), version)
            self.assertEqual(self.told(desk), seen[version])
        self.check_error(desk, desk.undo, NothingToUndo)

    def test_deeds_behind_an_undo(self):
        desk = self.desk()
        desk.undo()
        desk["q"] = QUOTIENT
        self.assertEqual((desk.version, desk.names, desk.wish_of("sq")), (5, ("mul", "p", "q", "sq"), None))
        self.assertEqual([desk.undo(), desk.names], [4, ("mul", "p", "sq")])


class TogetherTest(DeskCase):
    def test_no_deed(self):
        desk = self.desk()
        before = self.told(desk)
        calls = []
        self.assertEqual(desk.together(calls.append), 5)
        self.assertEqual(len(calls), 1)
        self.assertIs(calls[0], desk)
        self.assertEqual(self.told(desk), before)
        self.assertEqual(Desk(COMMON).together(lambda same: 7), 0)

    def test_one_and_several_deeds(self):
        for many in (1, 2, 5):
            desk, versions = self.desk(), []

            def function(same):
                for _ in range(many):
                    versions.append(same.wish("p"))
                    versions.append(same.version)
                same.drop("p")
                versions.append(same.version)

            self.assertEqual(desk.together(function), 6)
            self.assertEqual(versions, [*[5 + k for k in range(1, many + 1) for _ in (0, 1)], 6 + many])
            self.assertEqual(str(desk), "2 workings, 2 wishes, 6 deeds")
            self.assertEqual(desk.undo(), 5)
            self.assertEqual(self.told(desk), self.told(self.desk()))

    def test_exceptions_of_any_kind(self):
        usual = (ValueError, KeyboardInterrupt, SystemExit, GeneratorExit, StopIteration)
        for kind in (*usual, Stop, Unkept, NoScale, Busy):
            desk = self.desk()
            before = self.told(desk)
            error = kind("why") if kind is not Busy else kind()

            def function(same):
                same.drop("sq")
                same["q"] = QUOTIENT
                same.change_rule(MORE)
                raise error

            with self.assertRaises(kind) as caught:
                desk.together(function)
            self.assertIs(caught.exception, error)
            self.assertEqual(self.told(desk), before)
            # The desk takes deeds as before.
            self.assertEqual([desk.together(lambda same: same.drop("p")), desk.undo(), desk.undo()], [6, 5, 4])

    def test_deeds_that_are_refused_in_it(self):
        desk = self.desk()
        with self.assertRaises(Unkept):
            desk.together(lambda same: [same.drop("p"), same.wish("sq", HALF)])
        self.assertEqual(self.told(desk), self.told(self.desk()))

        def function(same):
            same.drop("p")
            try:
                same.wish("sq", HALF)
            except Unkept:
                same["p"] = ROOT

        self.assertEqual(desk.together(function), 6)
        self.assertEqual((desk["p"], desk.wish_of("sq")), (ROOT, TWICE))

    def test_busy(self):
        desk = self.desk()

        def function(same):
            for call in (same.undo, lambda: same.together(lambda again: again.drop("p")), lambda: same.together(None)):
                self.check_error(same, call, Busy)
            same.drop("sq")
            self.check_error(same, same.undo, Busy)
            self.check_error(same, lambda: same.together(lambda again: None), Busy)
            same.drop("p")

        self.assertEqual(desk.together(function), 6)
        self.assertEqual((desk.names, desk.undo()), (("mul",), 5))
        empty = Desk(COMMON)
        empty.together(lambda same: self.check_error(same, same.undo, Busy))
        with self.assertRaises(Busy):
            desk.together(lambda same: [same.drop("p"), same.undo()])
        self.assertEqual(self.told(desk), self.told(self.desk()))

    def test_another_desk_is_not_busy(self):
        desk, other = self.desk(), self.desk()
        self.assertEqual(desk.together(lambda same: other.together(lambda third: third.drop("p"))), 5)
        self.assertEqual(other.version, 6)
        self.assertEqual(desk.together(lambda same: other.undo()), 5)

    def test_full(self):
        desk = self.desk()

        def function(same):
            while same.version < MAX_DEEDS:
                same.wish("p")
            self.check_error(same, lambda: same.wish("p"), Full)

        self.assertEqual(desk.together(function), 6)
        with self.assertRaises(Full):
            desk.together(lambda same: [same.wish("p") for _ in range(MAX_DEEDS - 5)])
        self.assertEqual(desk.version, 6)
        full = self.full()
        self.assertEqual(full.together(lambda same: None), MAX_DEEDS)
        with self.assertRaises(Full):
            full.together(lambda same: same.wish("p"))
        self.assertEqual(full.undo(), MAX_DEEDS - 1)
        self.assertEqual(full.together(lambda same: same.wish("p")), MAX_DEEDS)

    def test_wishes_are_kept_in_between(self):
        # What would be kept only at the end is refused in between, too.
        desk = self.desk()
        with self.assertRaises(Unkept):
            desk.together(lambda same: [self.put(same, "sq", ROOT)(), same.wish("sq", HALF)])

        def function(same):
            same.wish("sq")
            same["sq"] = ROOT
            same.wish("sq", HALF)

        self.assertEqual(desk.together(function), 6)
        self.check_kept(desk)


class CopyTest(DeskCase):
    def test_results_do_not_change_the_desk(self):
        desk = self.desk()
        before = self.told(desk)
        names, steps = desk.names, desk["mul"]
        desk.drop("mul")
        self.assertEqual((names, steps), (("mul", "p", "sq"), BOTH))
        desk.undo()
        self.assertEqual(self.told(desk), before)

    def test_two_desks(self):
        one, other = self.desk(), self.desk()
        one.drop("p")
        one.wish("sq")
        self.assertEqual(self.told(other), self.told(self.desk()))


class RandomTest(DeskCase):
    def test_against_a_list_of_moments(self):
        chance = random.Random(17)
        wrong = (BOTH[:2], (("line", "A", 2, "x"), READ))
        workings = (BOTH, SQUARE, PRODUCT, QUOTIENT, ROOT, (("read", "CI", "n"),), *wrong)
        wishes = (None, None, MULTIPLY, DIVIDE, TWICE, HALF, (1, (), (0, 1)), (1, (("q", 1),), (0, 1)), 5)
        done = refused = 0
        for _ in range(6):
            desk, moments = Desk(COMMON), []
            for _ in range(60):
                before = self.told(desk)
                name = chance.choice(("a", "b", "c", "D"))
                deed = chance.choice((
                    self.put(desk, name, chance.choice(workings)), self.put(desk, name, chance.choice(workings)),
                    lambda: desk.wish(name, chance.choice(wishes)), lambda: desk.drop(name),
                    lambda: desk.change_rule(chance.choice((COMMON, BARE, FOLDED, MORE, None))), desk.undo,
                ))
                try:
                    deed()
                except (BadName, BadWorking, Misfit, NoWorking, BadWish, Unkept, Full, NotRule, NothingToUndo):
                    refused += 1
                    self.assertEqual(self.told(desk), before)
                else:
                    done += 1
                    if deed == desk.undo:
                        self.assertEqual(self.told(desk), moments.pop())
                    else:
                        moments.append(before)
                self.assertEqual(desk.version, len(moments))
                self.check_kept(desk)
        self.assertGreater(min(done, refused), 50)


if __name__ == "__main__":
    unittest.main()
