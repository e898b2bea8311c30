"""[8], [37], [38]: thinnings of a line, and those with the fewest members."""

import unittest
from itertools import combinations

from cornerfade.thinnings import fewest, is_thinning, shortcuts
from tests import flows
from tests.samples import (
    EMPTY, ILLEGAL, LINE, NO_INTEGERS, NO_LINES, NO_MAPS, TENT, bad_value, is_plain, listed, moved,
    one_line, with_marks,
)

MOST = 10 ** 19
NO_NEARNESS = NO_INTEGERS + (-1, MOST + 1, 10 ** 30, -(10 ** 30))
ZIGZAG = one_line(*[(3 * k, k % 2) for k in range(14)])
BOW = one_line((0, 0), (2, 6), (8, 6), (10, 0), (20, 0))
RING = one_line((0, 0), (9, -1), (12, 7), (5, 12), (-4, 8), (-2, 1), (-1, 1))


class IsThinningTest(unittest.TestCase):
    def test_thinnings(self):
        for value in ((0, 1, 2, 3, 4), (0, 2, 3, 4), (0, 1, 2, 4), (0, 2, 4)):
            self.assertIs(is_thinning(TENT, "rim", 5, value), True)
            self.assertIs(is_thinning(listed(TENT), "rim", 5, list(value)), True)
        self.assertIs(is_thinning(TENT, "rim", 0, (0, 1, 2, 3, 4)), True)
        self.assertIs(is_thinning(LINE, "ab", 0, (0, 1)), True)

    def test_no_thinnings(self):
        for value in (
            (0, 4), (0, 1, 4), (0, 3, 4), (0, 2), (2, 4), (1, 2, 4), (0, 2, 3), (0, 2, 4, 4), (0, 0, 2, 4),
            (0, 2, 1, 4), (0, 1, 2, 3, 4, 5), (0, 2, 4, 3), (4, 2, 0), (0, 2, 5), (-1, 0, 2, 4), (0,), (4,),
            (), (0, 2, 4, 10 ** 30), (-(10 ** 30), 2, 4), (0, 1, 2, 3), (1, 2, 3, 4),
        ):
            self.assertIs(is_thinning(TENT, "rim", 5, value), False)
            self.assertIs(is_thinning(TENT, "rim", 5, list(value)), False)
        for value in ((0, 2, 4), (0, 2, 3, 4), (0, 1, 2, 4)):
            self.assertIs(is_thinning(TENT, "rim", 0, value), False)

    def test_values_of_many_kinds(self):
        for value in NO_MAPS + NO_INTEGERS + (
            (False, 2, 4), (0, True, 2, 4), (0, None, 4), (0, "2", 4), (0, (2,), 4), (0, [2], 4), "024",
            (0, 2, (4,)), ((0, 2), (2, 4)), [[0, 2, 4]], (0, 2, 4, None), (None, 0, 2, 4), 4, [0] * 5000,
            tuple(range(5000)), (0, 2, []), ([], 2, 4), ("0", "2", "4"),
        ):
            self.assertIs(is_thinning(TENT, "rim", 5, value), False)
        self.assertIs(is_thinning(LINE, "ab", 0, (False, True)), False)
        self.assertIs(is_thinning(LINE, "ab", 0, (0, True)), False)
        self.assertIs(is_thinning(LINE, "ab", 0, (False, 1)), False)

    def test_against_all_rows_of_points(self):
        for seed in range(30):
            world = flows.bent_map(seed, (6, 9, 20)[seed % 3], 120, 5)
            for line in world[1]:
                last = len(line[3]) + 1
                if last > 7:
                    continue
                for nearness in (0, 4, MOST):
                    expected = flows.thinnings(world, line[0], nearness)
                    for many in range(last + 2):
                        for row in combinations(range(last + 1), many):
                            answer = is_thinning(world, line[0], nearness, row)
                            self.assertIs(answer, row in expected)


class FewestTest(unittest.TestCase):
    def test_the_example(self):
        self.assertEqual(fewest(TENT, "rim", 5), (0, 2, 4))
        self.assertTrue(is_plain(fewest(TENT, "rim", 5)))
        self.assertEqual(fewest(TENT, "rim", 0), (0, 1, 2, 3, 4))
        self.assertEqual(fewest(LINE, "ab", MOST), (0, 1))

    def test_one_shortcut_for_the_whole_line(self):
        self.assertEqual(fewest(BOW, "l", MOST), (0, 4))
        self.assertEqual(fewest(ZIGZAG, "l", 1), (0, 13))
        self.assertEqual(fewest(RING, "l", MOST), (0, 6))

    def test_the_first_of_several(self):
        # Two shortcuts do, by way of point 1 or 2; counted from the other end, 2 or 3.
        world = with_marks(BOW, (5, 3))
        self.assertEqual(shortcuts(world, "l", MOST), (
            (0, 1), (0, 2), (1, 2), (1, 3), (1, 4), (2, 3), (2, 4), (3, 4),
        ))
        self.assertEqual(fewest(world, "l", MOST), (0, 1, 4))
        back = one_line(*reversed(flows.path_of(world, "l")))
        back = with_marks(back, (5, 3))
        self.assertEqual(fewest(back, "l", MOST), (0, 2, 4))

    def test_near_shortcuts_alone(self):
        # The square of 6 is 36; the square of the distance from (10, 0) to the shortcut (1, 4) is 10.
        self.assertEqual(fewest(BOW, "l", 36), (0, 4))
        self.assertEqual(fewest(BOW, "l", 35), (0, 1, 4))
        self.assertEqual(fewest(BOW, "l", 10), (0, 1, 4))
        self.assertEqual(fewest(BOW, "l", 9), (0, 1, 2, 3, 4))
        self.assertEqual(fewest(BOW, "l", 0), (0, 1, 2, 3, 4))

    def test_lines_of_12_corners(self):
        for nearness in (0, 1):
            found = fewest(ZIGZAG, "l", nearness)
            self.assertEqual(found, best(ZIGZAG, "l", nearness))
        for seed in range(6):
            world = flows.bent_map(seed, 12, 400, 2)
            for line in world[1]:
                self.assertEqual(len(line[3]), 12)
                for nearness in (2, 20, MOST):
                    self.assertEqual(fewest(world, line[0], nearness), best(world, line[0], nearness))

    def test_against_all_rows_of_points(self):
        several = 0
        for seed in range(60):
            world = flows.bent_map(seed, (6, 9, 20)[seed % 3], 120, 5)
            for line in world[1]:
                if len(line[3]) > 7:
                    continue
                for nearness in (0, 1, 4, 20, MOST):
                    found = fewest(world, line[0], nearness)
                    rows = flows.thinnings(world, line[0], nearness)
                    least = min(len(row) for row in rows)
                    rows = [row for row in rows if len(row) == least]
                    self.assertEqual(found, min(rows))
                    self.assertTrue(is_plain(found))
                    self.assertIs(is_thinning(world, line[0], nearness, found), True)
                    several += len(rows) > 1
        self.assertGreater(several, 20)

    def test_far_out(self):
        for nearness in (0, 9, 10, 35, 36):
            far = moved(BOW, 40000000, -400000000, 500000000)
            scaled = nearness * 40000000 ** 2
            self.assertEqual(fewest(far, "l", scaled), fewest(BOW, "l", nearness))


def best(world, line, nearness):
    """The first of the thinnings with the fewest members, by trying all of them."""
    return min(flows.thinnings(world, line, nearness), key=lambda row: (len(row), row))


class WrongValuesTest(unittest.TestCase):
    def test_no_legal_map(self):
        for world in NO_MAPS + ILLEGAL:
            bad_value(self, 0, is_thinning, world, "rim", 0, (0, 1))
            bad_value(self, 0, fewest, world, "rim", 0)
        bad_value(self, 0, is_thinning, None, None, None, None)
        bad_value(self, 0, fewest, None, None, None)

    def test_no_line(self):
        for line in NO_LINES:
            bad_value(self, 1, is_thinning, TENT, line, 0, (0, 1))
            bad_value(self, 1, is_thinning, TENT, line, None, None)
            bad_value(self, 1, fewest, TENT, line, 0)
            bad_value(self, 1, fewest, TENT, line, None)
        bad_value(self, 1, fewest, EMPTY, "rim", 0)

    def test_no_nearness(self):
        for nearness in NO_NEARNESS:
            bad_value(self, 2, is_thinning, TENT, "rim", nearness, (0, 1, 2, 3, 4))
            bad_value(self, 2, is_thinning, TENT, "rim", nearness, None)
            bad_value(self, 2, fewest, TENT, "rim", nearness)
        self.assertEqual(fewest(TENT, "rim", MOST), (0, 2, 4))


if __name__ == "__main__":
    unittest.main()
