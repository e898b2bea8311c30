"""[35], [36]: clear, near and fit shortcuts."""

import unittest
from itertools import combinations

from cornerfade.maps import is_legal
from cornerfade.thinnings import is_clear, is_near, shortcuts
from tests import flows
from tests.samples import (
    EMPTY, ILLEGAL, LEGAL, NO_INTEGERS, NO_LINES, NO_MAPS, TENT, bad_value, greatest_map, is_plain,
    moved, one_line, with_marks,
)

MOST = 10 ** 19
FAR = 10 ** 9
BOW = one_line((0, 0), (2, 6), (8, 6), (10, 0), (20, 0))
NO_NEARNESS = NO_INTEGERS + (-1, MOST + 1, 10 ** 30, -(10 ** 30))


class ClearTest(unittest.TestCase):
    def clear(self, answer, world, line, i, j):
        self.assertIs(is_legal(world), True)
        self.assertIs(is_clear(world, line, i, j), answer)
        self.assertIs(flows.is_clear(world, line, i, j), answer)

    def test_every_segment_is_clear(self):
        for world in LEGAL + (greatest_map(),):
            for line in world[1]:
                for i in range(len(line[3]) + 1):
                    self.assertIs(is_clear(world, line[0], i, i + 1), True)

    def test_nothing_in_the_hull(self):
        for i, j in combinations(range(5), 2):
            self.clear(True, BOW, "l", i, j)

    def test_in_the_hull(self):
        # Below the line from (0, 0) to (8, 6), and below that from (2, 6) to (10, 0).
        world = with_marks(BOW, (5, 3))
        for i, j in combinations(range(5), 2):
            self.clear((i, j) not in ((0, 3), (0, 4)), world, "l", i, j)
        # Between (0, 0) and (8, 6) it is in the hull of three points, too.
        world = with_marks(BOW, (3, 4))
        for i, j in combinations(range(5), 2):
            self.clear((i, j) not in ((0, 2), (0, 3), (0, 4)), world, "l", i, j)

    def test_on_a_side_of_the_hull(self):
        self.clear(False, with_marks(BOW, (5, 0)), "l", 0, 3)
        self.clear(False, with_marks(BOW, (1, 0)), "l", 0, 3)
        self.clear(True, with_marks(BOW, (5, -1)), "l", 0, 3)
        self.clear(False, with_marks(BOW, (4, 3)), "l", 0, 2)
        self.clear(True, with_marks(BOW, (5, 3)), "l", 0, 2)
        self.clear(False, with_marks(BOW, (3, 3)), "l", 0, 2)
        # On the side from (8, 6) to (20, 0), which the line does not touch.
        self.clear(False, with_marks(BOW, (14, 3)), "l", 0, 4)
        self.clear(True, with_marks(BOW, (14, 4)), "l", 0, 4)

    def test_at_an_end_of_a_side(self):
        # Straight behind the ends of the sides there is nothing of the hull.
        for place in ((-1, 0), (11, 1), (-1, -3), (1, 6), (9, 6), (3, 9), (11, -3)):
            self.clear(True, with_marks(BOW, place), "l", 0, 3)
        for place in ((9, 0), (1, 0)):
            self.clear(False, with_marks(BOW, place), "l", 0, 3)

    def test_points_of_the_line_itself(self):
        # The line comes back into the hull of its first points.
        back = one_line((0, 0), (0, 10), (10, 10), (10, 0), (5, 5), (4, -5))
        self.clear(False, back, "l", 0, 3)
        self.clear(False, back, "l", 0, 2)
        self.clear(False, back, "l", 1, 3)
        self.clear(True, back, "l", 0, 5)
        self.clear(True, back, "l", 0, 4)
        self.clear(False, one_line((0, 0), (0, 10), (10, 10), (10, 0), (5, 4)), "l", 0, 3)
        self.clear(False, one_line((5, 4), (10, 0), (10, 10), (0, 10), (0, 0)), "l", 1, 4)
        self.clear(True, one_line((5, 4), (10, 0), (10, 10), (0, 10), (0, 0)), "l", 0, 4)

    def test_nodes_and_corners_of_other_lines(self):
        nodes, lines, marks = BOW
        self.clear(False, (nodes + (("c", 5, 3),), lines, marks), "l", 0, 3)
        nodes = nodes + (("c", 0, -9), ("d", 9, -9))
        for place, answer in (((5, 3), False), ((5, 0), False), ((5, -1), True)):
            world = (nodes, lines + (("k", "c", "d", (place,)),), marks)
            self.clear(answer, world, "l", 0, 3)
            self.clear(True, world, "l", 0, 1)

    def test_flat_hulls(self):
        flat = one_line((0, 0), (2, 2), (5, 5), (9, 9), (9, 0))
        for i, j in combinations(range(4), 2):
            self.clear(True, with_marks(flat, (-1, -1), (10, 10), (5, 4), (4, 5)), "l", i, j)
        upright = one_line((0, 9), (0, 5), (0, 1), (0, 0))
        for i, j in combinations(range(4), 2):
            self.clear(True, with_marks(upright, (0, 10), (0, -1), (1, 5)), "l", i, j)

    def test_flat_behind_a_bend(self):
        # Three points of one straight line and one beside it; the line comes back onto neither.
        bent = one_line((0, 0), (4, 0), (8, 0), (4, 4), (4, 9))
        self.clear(True, bent, "l", 0, 3)
        self.clear(False, with_marks(bent, (4, 1)), "l", 0, 3)
        self.clear(False, with_marks(bent, (4, 3)), "l", 1, 3)
        self.clear(False, with_marks(bent, (2, 2)), "l", 0, 3)
        self.clear(True, with_marks(bent, (2, 2)), "l", 1, 3)

    def test_far_out(self):
        wide = one_line((-FAR, -FAR), (-1, FAR), (1, FAR), (FAR, -FAR))
        for place, answer in (
            ((0, FAR - 1), False), ((2, FAR), True), ((0, -FAR), False), ((-FAR, 1 - FAR), True),
            ((FAR, 1 - FAR), True), ((FAR - 1, 1 - FAR), False), ((FAR - 1, -FAR), False),
        ):
            self.clear(answer, with_marks(wide, place), "l", 0, 3)

    def test_random_maps(self):
        seen = {True: 0, False: 0}
        for seed in range(60):
            world = flows.bent_map(seed, (6, 9, 20)[seed % 3], 150)
            for line in world[1]:
                for i, j in combinations(range(len(line[3]) + 2), 2):
                    answer = is_clear(world, line[0], i, j)
                    self.assertIs(answer, flows.is_clear(world, line[0], i, j))
                    seen[answer] += j > i + 1
        self.assertGreater(min(seen.values()), 100)


class NearTest(unittest.TestCase):
    def near(self, least, world, line, i, j):
        """Asserts that a shortcut is near for this nearness, and no less."""
        self.assertIs(is_near(world, line, i, j, least), True)
        self.assertIs(is_near(world, line, i, j, least + 1), True)
        self.assertIs(flows.is_near(world, line, i, j, least), True)
        if least > 0:
            self.assertIs(is_near(world, line, i, j, least - 1), False)
            self.assertIs(flows.is_near(world, line, i, j, least - 1), False)

    def test_squares_of_distances(self):
        self.near(36, BOW, "l", 0, 3)
        self.near(0, BOW, "l", 0, 1)
        # From (2, 6) to the line from (0, 0) to (8, 6): 36 * 36 / 100, rounded up.
        self.near(13, BOW, "l", 0, 2)
        self.near(49, one_line((0, 0), (5, 3), (6, -7), (10, 0)), "l", 0, 3)
        self.near(49, one_line((0, 0), (5, 7), (6, -3), (10, 0)), "l", 0, 3)

    def test_exactly_at_a_square(self):
        # The nearest place is (3, 4), within the segment and no end of it.
        world = one_line((0, 0), (-1, 7), (6, 8))
        self.assertEqual(flows.square((-1, 7), (0, 0), (6, 8)), 25)
        self.near(25, world, "l", 0, 2)

    def test_the_nearest_place_is_an_end(self):
        # (-3, 4) is before the start of the segment, (14, 3) behind its end.
        self.near(25, one_line((0, 0), (-3, 4), (10, 0)), "l", 0, 2)
        self.near(25, one_line((0, 0), (14, 3), (10, 0)), "l", 0, 2)
        self.near(2, one_line((0, 0), (-1, 1), (10, 0)), "l", 0, 2)
        self.near(2, one_line((10, 0), (-1, 1), (0, 0)), "l", 0, 2)
        # Right above the ends: both ways to reckon agree.
        self.near(49, one_line((0, 0), (0, 7), (10, 0)), "l", 0, 2)
        self.near(49, one_line((0, 0), (10, 7), (10, 0)), "l", 0, 2)

    def test_nearness_0(self):
        flat = one_line((0, 0), (2, 2), (5, 5), (9, 9), (9, 0))
        self.assertIs(is_near(flat, "l", 0, 3, 0), True)
        self.assertIs(is_near(flat, "l", 0, 4, 0), False)
        self.assertIs(is_near(flat, "l", 3, 4, 0), True)
        wide = one_line((-FAR, -FAR), (0, 0), (FAR, FAR - 1))
        self.assertIs(is_near(wide, "l", 0, 2, 0), False)
        self.assertIs(is_near(wide, "l", 0, 2, 1), True)
        self.assertEqual(shortcuts(flat, "l", 0), tuple(
            pair for pair in combinations(range(5), 2) if pair[1] < 4 or pair == (3, 4)
        ))

    def test_the_greatest_nearness(self):
        # The square of no distance on a map is above 8 * 10 ** 18.
        wide = one_line((-FAR, -FAR), (FAR, FAR), (-FAR, 1 - FAR))
        self.near((2 * FAR) ** 2 + (2 * FAR - 1) ** 2, wide, "l", 0, 2)
        self.assertIs(is_near(wide, "l", 0, 2, 8 * 10 ** 18 - 1), True)
        self.assertIs(is_near(wide, "l", 0, 2, MOST), True)
        self.assertIs(is_near(moved(wide, -1, 0, 0), "l", 0, 2, MOST), True)

    def test_it_need_not_be_clear(self):
        self.assertIs(is_near(TENT, "rim", 0, 4, 100), True)
        self.assertIs(is_clear(TENT, "rim", 0, 4), False)

    def test_random_maps(self):
        seen = {True: 0, False: 0}
        for seed in range(40):
            world = flows.bent_map(seed, (6, 9, 20)[seed % 3], 120)
            for line in world[1]:
                for i, j in combinations(range(len(line[3]) + 2), 2):
                    for nearness in (0, 1, 2, 5, 9, 16, 30, MOST):
                        answer = is_near(world, line[0], i, j, nearness)
                        self.assertIs(answer, flows.is_near(world, line[0], i, j, nearness))
                        seen[answer] += j > i + 1
        self.assertGreater(min(seen.values()), 100)


class ShortcutsTest(unittest.TestCase):
    def test_the_example(self):
        self.assertEqual(shortcuts(TENT, "rim", 5), ((0, 1), (0, 2), (1, 2), (2, 3), (2, 4), (3, 4)))
        self.assertEqual(shortcuts(TENT, "rim", 0), ((0, 1), (1, 2), (2, 3), (3, 4)))
        self.assertTrue(is_plain(shortcuts(TENT, "rim", 5)))

    def test_a_line_without_a_corner(self):
        self.assertEqual(shortcuts(one_line((0, 0), (5, 5)), "l", 0), ((0, 1),))

    def test_clear_or_near_alone_is_not_fit(self):
        self.assertNotIn((0, 4), shortcuts(TENT, "rim", 100))
        self.assertIs(is_clear(BOW, "l", 0, 3), True)
        self.assertNotIn((0, 3), shortcuts(BOW, "l", 35))
        self.assertIn((0, 3), shortcuts(BOW, "l", 36))

    def test_random_maps(self):
        for seed in range(40):
            world = flows.bent_map(seed, (6, 9, 20)[seed % 3], 150)
            for line in world[1]:
                for nearness in (0, 2, 9, 40, MOST):
                    found = shortcuts(world, line[0], nearness)
                    self.assertEqual(found, tuple(flows.fit(world, line[0], nearness)))
                    self.assertTrue(is_plain(found))


class WrongValuesTest(unittest.TestCase):
    def test_no_legal_map(self):
        for world in NO_MAPS + ILLEGAL:
            bad_value(self, 0, is_clear, world, "rim", 0, 1)
            bad_value(self, 0, is_near, world, "rim", 0, 1, 0)
            bad_value(self, 0, shortcuts, world, "rim", 0)
        bad_value(self, 0, is_clear, None, None, None, None)
        bad_value(self, 0, is_near, None, None, None, None, None)
        bad_value(self, 0, shortcuts, None, None, None)

    def test_no_line(self):
        for line in NO_LINES:
            bad_value(self, 1, is_clear, TENT, line, 0, 1)
            bad_value(self, 1, is_clear, TENT, line, None, None)
            bad_value(self, 1, is_near, TENT, line, 0, 1, 0)
            bad_value(self, 1, is_near, TENT, line, None, None, None)
            bad_value(self, 1, shortcuts, TENT, line, 0)
            bad_value(self, 1, shortcuts, TENT, line, None)
        bad_value(self, 1, shortcuts, EMPTY, "rim", 0)

    def test_no_point(self):
        for i in NO_INTEGERS + (-1, 5, 6, 10 ** 30, -(10 ** 30)):
            for j in (0, 1, 4, 5, None, 10 ** 30):
                bad_value(self, 2, is_clear, TENT, "rim", i, j)
                bad_value(self, 2, is_near, TENT, "rim", i, j, 0)
                bad_value(self, 2, is_near, TENT, "rim", i, j, None)

    def test_no_later_point(self):
        for i in range(5):
            for j in NO_INTEGERS + (-1, 0, i, i - 1, 5, 10 ** 30, -(10 ** 30)):
                if j is True or j not in range(i + 1, 5):
                    bad_value(self, 3, is_clear, TENT, "rim", i, j)
                    bad_value(self, 3, is_near, TENT, "rim", i, j, 0)
                    bad_value(self, 3, is_near, TENT, "rim", i, j, None)

    def test_no_nearness(self):
        for nearness in NO_NEARNESS:
            bad_value(self, 4, is_near, TENT, "rim", 0, 1, nearness)
            bad_value(self, 4, is_near, TENT, "rim", 3, 4, nearness)
            bad_value(self, 2, shortcuts, TENT, "rim", nearness)
        self.assertIs(is_near(TENT, "rim", 0, 1, MOST), True)
        self.assertEqual(len(shortcuts(TENT, "rim", MOST)), 6)


if __name__ == "__main__":
    unittest.main()
