"""Regions: cut, split and told from each other, against the systems of their conditions."""

import random
import unittest
from fractions import Fraction

from offscale.forms import Form
from offscale.regions import box
from offscale.systems import holds, solve
from samples import any_fraction
from workings import even_operands, odd_operands

ONE = Form((), (1, 1))


def even_form(chance, names):
    """A form with small integers and halves, so that several of them often meet."""
    terms = tuple((name, (chance.randint(-2, 2), 1)) for name in names)
    return Form(terms, chance.choice(((0, 1), (1, 1), (-1, 1), (1, 2), (-1, 2), (2, 1), (-3, 2))))


def any_form(chance, names):
    if chance.random() < 0.8:
        return even_form(chance, names)
    return Form(tuple((name, any_fraction(chance)) for name in names), any_fraction(chance))


class RegionCase(unittest.TestCase):
    def setUp(self):
        self.chance = random.Random(13)

    def any_cuts(self, names):
        """A region of the box, all conditions that made it, and whether there was nothing left of one more cut."""
        region = box(tuple(names))
        conditions = list(region.conditions)
        for _ in range(self.chance.randint(0, 9)):
            condition = (any_form(self.chance, names), self.chance.random() < 0.5)
            part = region.cut(*condition)
            if part is None:
                return region, conditions, condition
            region = part
            conditions.append(condition)
        return region, conditions, None


class CutTest(RegionCase):
    def test_against_solve(self):
        nothing = 0
        for _ in range(300):
            names = "xyz"[:self.chance.randint(0, 3)]
            region, conditions, condition = self.any_cuts(names)
            if condition is not None:
                self.assertEqual(solve((*conditions, condition))[0], "never")
                nothing += 1
            middle = region.middle()
            self.assertEqual(sorted(middle), list(names))
            self.assertTrue(holds(tuple(conditions), middle))
            self.assertTrue(holds(region.conditions, middle))
            for _ in range(10):
                operands = (even_operands if self.chance.random() < 0.8 else odd_operands)(self.chance, names)
                self.assertIs(holds(tuple(conditions), operands), holds(region.conditions, operands))
        self.assertGreater(nothing, 50)

    def test_corners(self):
        for _ in range(200):
            names = "xyz"[:self.chance.randint(0, 3)]
            region, conditions, _ = self.any_cuts(names)
            self.assertEqual(len({spot for spot, _ in region.corners}), len(region.corners))
            for spot, bits in region.corners:
                operands = {name: Fraction(top, spot[0]) for name, top in zip(names, spot[1:])}
                for at, (form, _) in enumerate(region.conditions):
                    value = sum(Fraction(*form.factor(name)) * operands[name] for name in names)
                    value += Fraction(*form.constant)
                    self.assertGreaterEqual(value, 0)
                    self.assertIs(value == 0, bits >> at & 1 == 1)

    def test_nothing_changes(self):
        for _ in range(50):
            region, _, _ = self.any_cuts("xyz")
            before = (region.conditions, list(region.corners), region.strict)
            form = any_form(self.chance, "xyz")
            region.cut(form, True)
            region.floors(form)
            region.ways(form)
            region.signs(form)
            self.assertEqual((region.conditions, list(region.corners), region.strict), before)

    def test_without_names(self):
        region = box(())
        self.assertEqual(region.middle(), {})
        self.assertIsNone(region.cut(Form(), True))
        self.assertEqual(region.cut(Form(), False).middle(), {})
        self.assertEqual([floor for floor, _ in region.floors(Form((), (-1, 2)))], [-1])
        self.assertEqual([sign for sign, _ in region.signs(Form())], [0])
        self.assertEqual([way for way, _ in region.ways(ONE)], [0])


class SplitTest(RegionCase):
    def check_split(self, region, rows, tell):
        """Each operands of the region lie in just the part that is told for them."""
        self.assertEqual([row[0] for row in rows], sorted({row[0] for row in rows}))
        for integer, part in rows:
            self.assertTrue(holds(region.conditions, part.middle()))
            self.assertEqual(tell(part.middle()), integer)
        for _ in range(10):
            operands = even_operands(self.chance, region.order)
            if holds(region.conditions, operands):
                inside = [integer for integer, part in rows if holds(part.conditions, operands)]
                self.assertEqual(inside, [tell(operands)])

    def test_at_random(self):
        for _ in range(150):
            names = "xyz"[:self.chance.randint(0, 3)]
            region, _, _ = self.any_cuts(names)
            form = any_form(self.chance, names)

            def value(operands, form=form):
                return Fraction(*form(operands))

            self.check_split(region, region.floors(form), lambda at: value(at) // 1)
            self.check_split(region, region.signs(form), lambda at: (value(at) > 0) - (value(at) < 0))
            self.check_split(region, region.ways(form), lambda at: (value(at) > 1) - (value(at) < 0))

    def test_where_no_integer(self):
        found = []
        for _ in range(400):
            names = "xyz"[:self.chance.randint(0, 3)]
            region, _, _ = self.any_cuts(names)
            form = even_form(self.chance, names) if self.chance.random() < 0.7 else Form((), (2, 1))
            operands = region.where_no_integer(form)
            found.append(operands is None)
            if operands is not None:
                self.assertTrue(holds(region.conditions, operands))
                self.assertNotEqual(form(operands)[1], 1)
            else:
                for _ in range(5):
                    at = even_operands(self.chance, names)
                    if holds(region.conditions, at):
                        self.assertEqual(form(at)[1], 1)
        self.assertGreater(min(found.count(True), found.count(False)), 50)

    def test_an_integer_in_the_middle(self):
        # At the middle both forms are integers, and only next to it they are not.
        region = box(("x",))
        for form in (Form((("x", (2, 1)),)), Form((("x", (20, 1)),)), Form((("x", (-2, 1)),), (1, 1))):
            self.assertEqual(form(region.middle())[1], 1)
            self.assertNotEqual(form(region.where_no_integer(form))[1], 1)
        thin = region.within((Form((("x", (1, 1)),), (-1, 2)), False), (Form((("x", (-1, 1)),), (1, 2)), False))
        self.assertIsNone(thin.where_no_integer(Form((("x", (2, 1)),))))


if __name__ == "__main__":
    unittest.main()
