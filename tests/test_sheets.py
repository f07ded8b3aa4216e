"""Points [13] and [2] (a): the cells of a working, each against the runs at its operands."""

import inspect
import random
import time
import unittest

from offscale import sheets
from offscale.errors import BadWorking, Misfit
from offscale.forms import Form
from offscale.fractions import is_fraction
from offscale.rules import Rule
from offscale.runs import run
from offscale.sheets import Cell, sheet
from offscale.steps import misfit, operands_of, working_error
from offscale.systems import holds, solve
from samples import ANYTHING, any_mantissa
from workings import BOTH, CHAIN, COMMON, PRODUCT, READ, TRIES, WIDE, Play, any_operands, any_rule, any_working


def told(cells):
    """All that the cells tell."""
    return [(cell.course, cell.outcome, cell.conditions, cell.point) for cell in cells]


class SheetCase(unittest.TestCase):
    def setUp(self):
        self.chance = random.Random(13)

    def check_operands(self, rule, steps, cells, operands, signs):
        """Check that the operands lie in one cell, which is the one of their run; return its course."""
        play = Play(rule, steps, operands, signs)
        self.assertEqual(run(rule, steps, operands, signs=signs), (tuple(play.course), play.outcome))
        inside = [cell for cell in cells if operands in cell]
        self.assertEqual([cell.course for cell in inside], [tuple(play.course)])
        word, value = inside[0].outcome
        self.assertEqual((word, value(operands) if word == "reads" else value), play.outcome)
        return tuple(play.course)

    def check_sheet(self, rule, steps, signs, many=5):
        """Check all that is told of a sheet, and return its cells."""
        cells = sheet(rule, steps, signs=signs)
        names = operands_of(steps)
        self.assertIs(type(cells), tuple)
        courses = [cell.course for cell in cells]
        self.assertEqual(courses, sorted(set(courses)))
        for cell in cells:
            self.assertIsInstance(cell, Cell)
            self.assertIn(cell.outcome[0], ("off", "reads"))
            if cell.outcome[0] == "reads":
                self.assertIsInstance(cell.outcome[1], Form)
                self.assertLessEqual(set(cell.outcome[1].names), set(names))
            self.assertLessEqual(len(cell.conditions), 60)
            for condition in cell.conditions:
                self.assertEqual([type(one) for one in (condition, *condition)], [tuple, Form, bool])
                self.assertLessEqual(set(condition[0].names), set(names))
            self.assertEqual(tuple(sorted(cell.point)), names)
            self.assertTrue(all(is_fraction(value) for value in cell.point.values()))
        for cell in cells if len(cells) < 20 else self.chance.sample(cells, 20):
            self.assertEqual(self.check_operands(rule, steps, cells, cell.point, signs), cell.course)
        forms = [form for cell in cells for form, _ in cell.conditions]
        for _ in range(many):
            self.check_operands(rule, steps, cells, any_operands(self.chance, names, forms), signs)
        return cells


class InterfaceTest(SheetCase):
    def test_example(self):
        cells = sheet(COMMON, PRODUCT)
        self.assertEqual(
            [
                [(cell.course, cell.outcome[0]) for cell in cells], str(cells[1].outcome[1]),
                {"x": (1, 2), "y": (1, 2)} in cells[1],
            ],
            [
                [((0, 0, 0, 0), "reads"), ((0, 0, 0, 1), "reads"), ((0, 0, 1), "off")],
                "1/1 x + 1/1 y + -1/1", True,
            ],
        )

    def test_arguments(self):
        self.assertEqual(str(inspect.signature(sheet)), "(rule, steps, *, signs=False)")
        self.assertEqual([sheet.__module__, Cell.__module__], ["offscale.sheets"] * 2)
        self.assertIs(sheets.Cell, Cell)

    def test_all_stands_in_the_class_itself(self):
        self.assertIn("__contains__", vars(Cell))
        self.assertIsInstance(vars(Cell)["point"], property)

    def test_set_when_made(self):
        for cell in sheet(COMMON, BOTH):
            for name in ("course", "outcome", "conditions"):
                self.assertIn(name, vars(cell))


class PointTest(SheetCase):
    def test_a_new_dict_each_time(self):
        for cell in sheet(COMMON, BOTH):
            before = cell.point
            changed = cell.point
            self.assertIsNot(before, changed)
            changed["x"] = (5, 1)
            changed.clear()
            self.assertEqual(cell.point, before)
            self.assertIn(cell.point, [before])
            self.assertTrue(before in cell)

    def test_without_operands(self):
        off = (("slide", "C", 0, "right"), ("line", "C", 0, "left"), READ)
        for steps, course, outcome in (
            ((READ,), (0,), ("reads", Form())),
            ((("line", "A", 1, (1, 2)), READ), (0,), ("reads", Form((), (3, 4)))),
            (off, (-1,), ("off", 1)),
            ((("try", off, (READ,)),), (-1, 0), ("reads", Form())),
        ):
            for signs in (False, True):
                cells = self.check_sheet(COMMON, steps, signs)
                self.assertEqual(len(cells), 1)
                self.assertEqual([cells[0].point, cells[0].outcome], [{}, outcome])
                self.assertTrue({} in cells[0] and {"x": (7, 1)} in cells[0])
                if not signs:
                    self.assertEqual(cells[0].course, course)


class InTest(SheetCase):
    def test_any_fractions(self):
        for cell in sheet(COMMON, PRODUCT):
            for x, y in (
                ((-1, 2), (1, 2)), ((1, 1), (0, 1)), ((0, 1), (1, 1)), ((5, 1), (-5, 1)), ((1, 2), (-1, 10 ** 30)),
            ):
                self.assertIs({"x": x, "y": y} in cell, False)

    def test_others_do_not_count(self):
        for cell in sheet(COMMON, PRODUCT):
            self.assertIs({**cell.point, "q": (9, 1), "out": None} in cell, True)
            self.assertIs({"x": (7, 8), "y": (7, 8), "q": (0, 1)} in cell, cell.outcome[0] == "off")

    def test_the_edges(self):
        cells = sheet(COMMON, PRODUCT)
        for x, y, at in (
            ((1, 2), (1, 2), 1), ((1, 2), (499, 1000), 0), ((1, 2), (501, 1000), 2), ((0, 1), (0, 1), 0),
        ):
            self.assertEqual([{"x": x, "y": y} in cell for cell in cells], [k == at for k in range(3)])

    def test_only_where_the_conditions_hold(self):
        for _ in range(40):
            rule = any_rule(self.chance)
            steps = any_working(self.chance, rule, 6)
            cells = sheet(rule, steps)
            forms = [form for form, _ in cells[0].conditions]
            for _ in range(5):
                operands = any_operands(self.chance, operands_of(steps), forms)
                for cell in cells:
                    self.assertIs(operands in cell, holds(cell.conditions, operands))


class OutcomeTest(SheetCase):
    def test_forms(self):
        steps = (("line", "D", 0, "x"), ("read", "A", "n"), ("line", "K", 1, "n"), ("read", "D", "out"))
        cells = self.check_sheet(COMMON, steps, False)
        self.assertEqual(
            [(cell.course, str(cell.outcome[1])) for cell in cells],
            [((0, 0, 0, 0), "2/3 x + 1/3"), ((0, 1, 0, 0), "2/3 x + 0/1")],
        )

    def test_signs(self):
        steps = (("line", "D", 0, "x"), ("slide", "C", 0, "y"), READ)
        self.assertEqual([cell.course for cell in self.check_sheet(COMMON, steps, False)], [(0, 0, 0)])
        courses = [cell.course for cell in self.check_sheet(COMMON, steps, True)]
        self.assertEqual(courses, [(0, 0, -1, 0), (0, 0, 0, 0), (0, 0, 1, 0)])

    def test_a_cell_of_one_point(self):
        # At home just at one row of operands.
        home = ("slide", "C", 0, "left")
        steps = (("line", "D", 0, "x"), home, ("line", "D", 0, "y"), home, READ)
        cells = self.check_sheet(COMMON, steps, True, 30)
        found = [cell for cell in cells if cell.course == (0, 0, 0, 0, 0)]
        self.assertEqual([cell.point for cell in found], [{"x": (0, 1), "y": (0, 1)}])


class RandomTest(SheetCase):
    def test_at_random(self):
        kinds = {}
        for _ in range(150):
            rule = any_rule(self.chance)
            names = "xyz"[:self.chance.randint(0, 3)]
            steps = any_working(self.chance, rule, self.chance.randint(2, 10), names)
            for signs in (False, True):
                for cell in self.check_sheet(rule, steps, signs):
                    kinds[cell.outcome[0]] = kinds.get(cell.outcome[0], 0) + 1
        self.assertGreater(min(kinds.values()), 100)

    def test_no_two_cells_meet(self):
        for _ in range(30):
            rule = any_rule(self.chance)
            cells = sheet(rule, any_working(self.chance, rule, 6))
            for at, cell in enumerate(cells):
                self.assertEqual(solve(cell.conditions)[0], "point")
                for other in cells[max(0, at - 2):at]:
                    if len(cell.conditions) + len(other.conditions) <= 60:
                        self.assertEqual(solve(cell.conditions + other.conditions)[0], "never")

    def test_long_fractions(self):
        for _ in range(10):
            rule = Rule(
                (("D", 1, any_mantissa(self.chance, 40)), ("K", -3, any_mantissa(self.chance, 40))),
                (("C", 2, any_mantissa(self.chance, 40)),),
            )
            self.check_sheet(rule, any_working(self.chance, rule, 8), True)

    def test_cells_are_found_where_only_the_operands_tell(self):
        # Every course that a run takes has a cell, and every cell has a run that takes it.
        for _ in range(20):
            rule = any_rule(self.chance)
            steps = any_working(self.chance, rule, 5, "x")
            if operands_of(steps) == ("x",):
                at = [{"x": (top, bottom)} for bottom in (1, 7, 11, 24, 97) for top in range(bottom)]
                at = [operands for operands in at if is_fraction(operands["x"])]
                taken = {run(rule, steps, operands)[0] for operands in at}
                self.assertLessEqual(taken, {cell.course for cell in sheet(rule, steps)})

    def test_large_sheets(self):
        for steps, least in ((CHAIN, 1000), (TRIES, 40)):
            start = time.monotonic()
            cells = sheet(WIDE, steps, signs=True)
            self.assertLess(time.monotonic() - start, 20)
            self.assertGreater(len(cells), least)
            forms = [form for cell in cells for form, _ in cell.conditions]
            for _ in range(20):
                self.check_operands(WIDE, steps, cells, any_operands(self.chance, ("x", "y", "z"), forms), True)
            for cell in self.chance.sample(cells, 40):
                self.check_operands(WIDE, steps, cells, cell.point, True)

    def test_equal_calls(self):
        for _ in range(20):
            rule = any_rule(self.chance)
            steps = any_working(self.chance, rule)
            first, second = sheet(rule, steps), sheet(rule, steps)
            self.assertEqual(told(first), told(second))
            self.assertEqual(first, second)
            self.assertNotEqual(first, sheet(rule, steps)[1:])

    def test_cells_are_equal_if_all_that_they_tell_is(self):
        parts = ((0,), ("off", 1), ((Form(), False),), {"x": (0, 1)})
        others = ((1,), ("off", 2), (), {"x": (1, 2)})
        cell = Cell(*parts)
        self.assertTrue(cell == Cell(*parts) and not cell != Cell(*parts))
        for at, other in enumerate(others):
            self.assertFalse(cell == Cell(*parts[:at], other, *parts[at + 1:]))
        for value in (*ANYTHING, parts):
            self.assertFalse(cell == value)


class ErrorTest(SheetCase):
    def check_error(self, steps, kind, **wanted):
        for signs in (False, True):
            with self.assertRaises(kind) as caught:
                sheet(COMMON, steps, signs=signs)
            self.assertEqual(vars(caught.exception), wanted)

    def test_wrong_workings(self):
        for value in (*ANYTHING, PRODUCT[:3], list(PRODUCT), (("line", "D", 0, "out"), READ), PRODUCT * 3):
            if working_error(value) is not None:
                self.check_error(value, BadWorking, error=working_error(value))

    def test_misfits(self):
        for steps in ((("slide", "D", 0, "x"), READ), (("line", "A", 2, "x"), READ), (("read", "F", "n"),)):
            number, word = misfit(COMMON, steps)
            self.check_error(steps, Misfit, number=number, word=word)
        self.check_error((("slide", "F", 0, "x"), ("read", "Q", "n")), Misfit, number=0, word="scale")
        self.check_error((("slide", "F", 0, "x"),), BadWorking, error=(None, "end"))


if __name__ == "__main__":
    unittest.main()
