"""[9], [39]: levels, which prove that no thinning has fewer shortcuts."""

import random
import unittest

from cornerfade.errors import BadLevels
from cornerfade.thinnings import fewest, levels, levels_hold, shortcuts
from tests import flows
from tests.samples import (
    EMPTY, ILLEGAL, LINE, NO_INTEGERS, NO_LINES, NO_MAPS, TENT, bad_value, is_plain, one_line,
)

MOST = 10 ** 19
NO_NEARNESS = NO_INTEGERS + (-1, MOST + 1, 10 ** 30, -(10 ** 30))
BOW = one_line((0, 0), (2, 6), (8, 6), (10, 0), (20, 0))


def expected_fault(value, fit, many):
    """What BadLevels tells of a sequence, None if it is levels: word by word from [39]."""
    for j, level in enumerate(value[:many]):
        if type(level) is not int:
            return j
        if j == 0 and level != 0:
            return 0
        for i in range(j):
            if (i, j) in fit and level - value[i] > 1:
                return j
    if len(value) > many:
        return many
    return len(value) if len(value) < many else None


class LevelsTest(unittest.TestCase):
    def test_least_numbers(self):
        self.assertEqual(levels(TENT, "rim", 5), (0, 1, 1, 2, 2))
        self.assertEqual(levels(TENT, "rim", 0), (0, 1, 2, 3, 4))
        self.assertEqual(levels(BOW, "l", MOST), (0, 1, 1, 1, 1))
        self.assertEqual(levels(LINE, "ab", 0), (0, 1))
        self.assertTrue(is_plain(levels(TENT, "rim", 5)))

    def test_random_maps(self):
        for seed in range(50):
            world = flows.bent_map(seed, (6, 9, 20)[seed % 3], 120)
            for line in world[1]:
                for nearness in (0, 4, MOST):
                    fit = flows.fit(world, line[0], nearness)
                    least = [0] * (len(line[3]) + 2)
                    for j in range(1, len(least)):
                        least[j] = min(least[i] + 1 for i in range(j) if (i, j) in fit)
                    found = levels(world, line[0], nearness)
                    self.assertEqual(found, tuple(least))
                    self.assertTrue(is_plain(found))
                    self.assertEqual(found[-1], len(fewest(world, line[0], nearness)) - 1)
                    self.assertIs(levels_hold(world, line[0], nearness, found), True)
                    self.assertIs(levels_hold(world, line[0], nearness, list(found)), True)


class LevelsHoldTest(unittest.TestCase):
    def bad(self, at, world, line, nearness, value):
        with self.assertRaises(BadLevels) as caught:
            levels_hold(world, line, nearness, value)
        self.assertIs(type(caught.exception), BadLevels)
        self.assertEqual(caught.exception.at, at)
        self.assertIs(type(caught.exception.at), int)

    def test_they_hold(self):
        for value in (
            (0, 1, 1, 2, 2), (0, 0, 0, 0, 0), (0, -1, -5, -(10 ** 30), 1 - 10 ** 30), (0, 1, 1, 1, 2), (0, 0, 1, 2, 2),
            (0, -7, -6, -5, -5), (0, 1, 0, 1, 1),
        ):
            self.assertIs(levels_hold(TENT, "rim", 5, value), True)
            self.assertIs(levels_hold(TENT, "rim", 5, list(value)), True)
        self.assertIs(levels_hold(TENT, "rim", 0, (0, 1, 2, 3, 4)), True)
        self.assertIs(levels_hold(LINE, "ab", 0, (0, 1)), True)

    def test_too_high_at_each_point(self):
        right = (0, 1, 1, 2, 2)
        for j in range(5):
            for more in (1, 2, 10 ** 29):
                value = right[:j] + (right[j] + more,) + right[j + 1:]
                self.bad(j, TENT, "rim", 5, value)
                self.bad(j, TENT, "rim", 5, list(value))
        self.bad(0, TENT, "rim", 5, (-1, 0, 0, 0, 0))
        self.bad(4, TENT, "rim", 5, (0, 1, 0, 1, 2))
        self.bad(2, TENT, "rim", 5, (0, -1, 1, 2, 2))
        self.bad(1, LINE, "ab", 0, (0, 2))

    def test_the_first_point_is_told(self):
        self.bad(1, TENT, "rim", 5, (0, 2, 2, 2, 9))
        self.bad(0, TENT, "rim", 5, (1, 2, 2, None, 9))
        self.bad(1, TENT, "rim", 5, (0, None, 2, True, 9))
        self.bad(3, TENT, "rim", 5, (0, 1, 1, None))
        self.bad(2, TENT, "rim", 5, (0, 1, 2, 2, 2, 2, 2))
        self.bad(2, TENT, "rim", 5, (0, 1, 2))

    def test_no_integers_among_them(self):
        right = (0, 1, 1, 2, 2)
        for j in range(5):
            for wrong in NO_INTEGERS:
                self.bad(j, TENT, "rim", 5, right[:j] + (wrong,) + right[j + 1:])
        self.bad(0, LINE, "ab", 0, (False, 1))
        self.bad(1, LINE, "ab", 0, (0, True))

    def test_too_many_and_too_few(self):
        right = (0, 1, 1, 2, 2)
        for many in range(5):
            self.bad(many, TENT, "rim", 5, right[:many])
            self.bad(many, TENT, "rim", 5, list(right[:many]))
        for more in ((2,), (2, 2), (None,), (True, "x"), (99,), (0,) * 4995, ([],)):
            self.bad(5, TENT, "rim", 5, right + more)
        self.bad(2, LINE, "ab", 0, (0, 1, 2))
        self.bad(1, LINE, "ab", 0, (0,))
        self.bad(0, LINE, "ab", 0, ())

    def test_no_sequence(self):
        for value in (None, True, False, 0, 5, "", "01122", "a" * 20000, 10 ** 30):
            self.bad(0, TENT, "rim", 5, value)
            self.bad(0, LINE, "ab", 0, value)

    def test_random_values(self):
        draw = random.Random(7)
        seen = set()
        for seed in range(40):
            world = flows.bent_map(seed, (6, 9, 20)[seed % 3], 120)
            for line in world[1]:
                fit = shortcuts(world, line[0], 9)
                many = len(line[3]) + 2
                for _ in range(30):
                    value = list(levels(world, line[0], 9))
                    for _ in range(draw.randrange(4)):
                        value[draw.randrange(len(value))] += draw.choice((-2, -1, 1, 2))
                    value = value[:many - draw.choice((0, 0, 0, 0, 1))] + [1] * draw.choice((0, 0, 0, 1, 2))
                    if draw.randrange(9) == 0:
                        value[draw.randrange(len(value))] = draw.choice((True, None, "1", []))
                    at = expected_fault(value, fit, many)
                    seen.add(at)
                    if at is None:
                        self.assertIs(levels_hold(world, line[0], 9, value), True)
                        self.assertLessEqual(value[-1], len(fewest(world, line[0], 9)) - 1)
                    else:
                        self.bad(at, world, line[0], 9, value)
        self.assertLessEqual({None, 0, 1, 2, 3, 4}, seen)


class WrongValuesTest(unittest.TestCase):
    def test_no_legal_map(self):
        for world in NO_MAPS + ILLEGAL:
            bad_value(self, 0, levels, world, "rim", 0)
            bad_value(self, 0, levels_hold, world, "rim", 0, (0, 1))
        bad_value(self, 0, levels, None, None, None)
        bad_value(self, 0, levels_hold, None, None, None, None)

    def test_no_line(self):
        for line in NO_LINES:
            bad_value(self, 1, levels, TENT, line, 0)
            bad_value(self, 1, levels, TENT, line, None)
            bad_value(self, 1, levels_hold, TENT, line, 0, (0, 1))
            bad_value(self, 1, levels_hold, TENT, line, None, None)
        bad_value(self, 1, levels, EMPTY, "rim", 0)

    def test_no_nearness(self):
        for nearness in NO_NEARNESS:
            bad_value(self, 2, levels, TENT, "rim", nearness)
            bad_value(self, 2, levels_hold, TENT, "rim", nearness, (0, 1, 2, 3, 4))
            bad_value(self, 2, levels_hold, TENT, "rim", nearness, None)


if __name__ == "__main__":
    unittest.main()
