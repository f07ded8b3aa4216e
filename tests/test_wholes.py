"""Equations in integers: all solutions, or shares that show that there are none."""

import random
import unittest
from fractions import Fraction
from itertools import product

from offscale.wholes import solve_wholes


class WholesTest(unittest.TestCase):
    def setUp(self):
        self.chance = random.Random(15)

    def applied(self, row, unknowns):
        return sum(one * other for one, other in zip(row, unknowns))

    def rank(self, rows):
        """How many of the rows do not depend on the others, over the fractions."""
        rows = [[Fraction(one) for one in row] for row in rows]
        rank = 0
        for column in range(len(rows[0]) if rows else 0):
            chosen = [row for row in rows[rank:] if row[column] != 0]
            if chosen:
                pivot = chosen[0]
                rest = [row for row in rows[rank:] if row is not pivot]
                rest = [[a - b * row[column] / pivot[column] for a, b in zip(row, pivot)] for row in rest]
                rows = [*rows[:rank], pivot, *rest]
                rank += 1
        return rank

    def check(self, equations, many):
        answer = solve_wholes(equations, many)
        if answer[0] == "all":
            _, one, basis = answer
            for row, value in equations:
                self.assertEqual(self.applied(row, one), value)
                self.assertEqual([self.applied(row, other) for other in basis], [0] * len(basis))
            self.assertEqual(self.rank(basis), len(basis))
            self.assertEqual(len(basis), many - self.rank([row for row, _ in equations]))
        else:
            sums = [Fraction(0)] * (many + 1)
            for index, share in answer[1]:
                row, value = equations[index]
                sums = [one + Fraction(*share) * other for one, other in zip(sums, (*row, value))]
            self.assertEqual([one.denominator for one in sums[:-1]], [1] * many)
            self.assertNotEqual(sums[-1].denominator, 1)
        return answer

    def test_at_random(self):
        words = []
        for _ in range(2000):
            many = self.chance.randint(1, 5)
            secret = [self.chance.randint(-3, 3) for _ in range(many)]
            equations = []
            for _ in range(self.chance.randint(0, 6)):
                row = tuple(self.chance.choice((0, 0, 1, -1, 2, 3, -4, 6)) for _ in range(many))
                value = self.applied(row, secret) + (self.chance.random() < 0.1)
                equations.append((row, value))
            words.append(self.check(equations, many)[0])
        self.assertGreater(min(words.count("all"), words.count("none")), 200)

    def test_divisors(self):
        for row, value, word in (((2, 4), 1, "none"), ((2, 4), 2, "all"), ((6, 10, 15), 1, "all"), ((6, 10), 3, "none"),
                                 ((0, 0), 0, "all"), ((0, 0), 1, "none")):
            self.assertEqual(self.check([(row, value)], len(row))[0], word)
        # Each equation by itself has solutions, and the fractions have a common one.
        equations = [((1, 1), 0), ((1, -1), 1)]
        self.assertEqual(self.check(equations, 2)[0], "none")
        equations = [((1, 1, 0), 0), ((0, 1, 1), 0), ((1, 0, 1), 1)]
        self.assertEqual(self.check(equations, 3)[0], "none")

    def test_all_solutions(self):
        for _ in range(100):
            many = 3
            secret = [self.chance.randint(-2, 2) for _ in range(many)]
            rows = [tuple(self.chance.randint(-2, 2) for _ in range(many)) for _ in range(2)]
            equations = [(row, self.applied(row, secret)) for row in rows]
            _, one, basis = self.check(equations, many)
            if len(basis) == 3:
                continue
            # The sums of the answer and multiples hold every solution that is small, once each.
            wide = [one]
            for other in basis:
                wide = [tuple(a + k * b for a, b in zip(start, other)) for start in wide for k in range(-40, 41)]
            small = [unknowns for unknowns in wide if all(-2 <= one <= 2 for one in unknowns)]
            wanted = [
                unknowns for unknowns in product(range(-2, 3), repeat=many)
                if all(self.applied(row, unknowns) == value for row, value in equations)
            ]
            self.assertEqual(sorted(small), wanted)


if __name__ == "__main__":
    unittest.main()
