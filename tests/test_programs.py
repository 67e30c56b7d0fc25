"""Tests of faremachines.programs: multipliers of rows, shown to be the best ones by what keeps the rows ([10.4], [10.7])."""

import random
import unittest
from fractions import Fraction

from faremachines.programs import Program


def units(mosts):
    """Return the last rows, by the greatest number for each unknown."""
    return [(tuple([int(k == at) for k in range(len(mosts))]), most) for at, most in enumerate(mosts)]


def told(ratios):
    """Return the fractions that ratios tell."""
    return [Fraction(p, q) for p, q in ratios]


class ProgramTest(unittest.TestCase):
    def check(self, rows, least, limited):
        """Check what a program tells of rows; return whether its sum of bounds has no least one."""
        program = Program(rows, least, limited)
        size = range(len(least))
        if program.is_endless():
            multipliers = told(program.endless_multipliers())
            self.assertTrue(min(multipliers) >= 0 and limited == 0)
            self.assertTrue(all(sum([k * row[0][at] for k, row in zip(multipliers, rows)]) >= 0 for at in size))
            self.assertLess(sum([k * row[1] for k, row in zip(multipliers, rows)]), 0)
            return True
        multipliers, ratios, value = told(program.multipliers()), told(program.tariff()), Fraction(*program.value())
        self.assertTrue(min(multipliers + ratios) >= 0 and max(multipliers[:limited], default=0) <= 1)
        self.assertTrue(all(sum([k * row[0][at] for k, row in zip(multipliers, rows)]) >= least[at] for at in size))
        self.assertEqual(sum([k * row[1] for k, row in zip(multipliers, rows)]), value)
        # The sum of the numbers, less what the first rows lack, is as great: neither can be any better.
        lacks = [max(sum([a * x for a, x in zip(numbers, ratios)]) - bound, Fraction(0)) for numbers, bound in rows]
        self.assertTrue(not any(lacks[limited:]))
        self.assertEqual(sum([a * x for a, x in zip(least, ratios)]) - sum(lacks), value)
        return False

    def test_random_rows(self):
        source = random.Random(860)
        seen = {True: 0, False: 0}
        for _ in range(500):
            many, size = source.randrange(1, 7), source.randrange(0, 14)
            rows = []
            for _ in range(size):
                bound = source.choice([0, 0, source.randrange(-9, 30)])
                rows.append((tuple([source.randrange(-4, 5) for _ in range(many)]), bound))
            rows += units([source.choice([0, 3, 99]) for _ in range(many)])
            least = tuple([source.randrange(-5, 6) for _ in range(many)])
            seen[self.check(rows, least, 0)] += 1
            self.assertFalse(self.check(rows, (0,) * many, size))
            self.assertFalse(self.check(rows, least, size))
        self.assertGreater(min(seen.values()), 100, seen)

    def test_rows_on_which_simple_rules_go_round(self):
        # Where nothing is saved for many steps: Beale's rows, and Hoffman's or Chvatal's, told in integers.
        beale = [((-1, 1, 1), 3), ((240, 360, 0), 0), ((4, 6, -100), -2), ((-36, -12, 0), 0)]
        chvatal = [((1, 1, 1, 2), 20), ((-11, -3, 1, 0), 57), ((-5, -1, 0, -18), 9), ((18, 2, -1, 48), 24), ((1, -1, 1, 0), 0)]
        for rows, many in ((beale, 3), (chvatal, 4)):
            for sign in (1, -1):
                for least in ((1,) * many, (0,) * many, (-1,) * many, tuple(range(many))):
                    turned = [(tuple([sign * number for number in numbers]), sign * bound) for numbers, bound in rows]
                    self.check(turned + units((99,) * many), least, 0)
                    self.check(turned + units((99,) * many), least, len(rows))

    def test_many_rows_with_the_bound_0(self):
        source = random.Random(861)
        for _ in range(12):
            rows = [(tuple([source.choice([-1, 0, 0, 1]) for _ in range(16)]), 0) for _ in range(120)]
            rows += [(tuple([source.randrange(3) for _ in range(16)]), 10), (tuple([-source.randrange(3) for _ in range(16)]), -4)]
            rows += units((99,) * 16)
            self.check(rows, tuple([source.randrange(-1, 3) for _ in range(16)]), 0)
            self.assertFalse(self.check(rows, (0,) * 16, 122))
