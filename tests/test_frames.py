"""[28]: frames of a drop, moment by moment."""

import unittest

from cornerfade.drops import frame
from cornerfade.maps import is_legal, is_map
from tests import flows
from tests.samples import (
    EMPTY, ILLEGAL, LINE, NO_INTEGERS, NO_LINES, NO_MAPS, TENT, bad_value, is_plain, moved, one_line,
)

HAT = (
    (("a", 0, 0), ("b", 10, 0), ("c", -3, 7)),
    (("l", "a", "b", ((5, 10), (9, 4))), ("k", "c", "a", ((-3, 1),))),
    (("m", 7, -2, 3, 1000000),),
)
EDGE = ((("a", -10000, 0), ("b", 10000, 10000)), (("l", "a", "b", ((0, -10000),)),), ())


class FrameTest(unittest.TestCase):
    def test_moment_0(self):
        self.assertEqual(frame(HAT, "l", 0, 0, 1), (
            (("a", 0, 0), ("b", 20, 0), ("c", -6, 14)),
            (("l", "a", "b", ((10, 20), (18, 8))), ("k", "c", "a", ((-6, 2),))),
            (("m", 14, -4, 3, 1000000),),
        ))
        for bottom in (1, 2, 7, 10000):
            self.assertEqual(frame(HAT, "l", 1, 0, bottom), moved(HAT, 2 * bottom, 0, 0))

    def test_moment_1(self):
        # The middle of (0, 0) and (9, 4), times two.
        expected = flows.with_corners(moved(HAT, 2, 0, 0), "l", ((9, 4), (18, 8)))
        self.assertEqual(frame(HAT, "l", 0, 1, 1), expected)
        expected = flows.with_corners(moved(HAT, 6, 0, 0), "l", ((27, 12), (54, 24)))
        self.assertEqual(frame(HAT, "l", 0, 3, 3), expected)
        expected = flows.with_corners(moved(HAT, 20000, 0, 0), "k", ((-30000, 70000),))
        self.assertEqual(frame(HAT, "k", 0, 10000, 10000), expected)

    def test_between(self):
        # A third of the way from (5, 10) to (4.5, 2), times six.
        expected = flows.with_corners(moved(HAT, 6, 0, 0), "l", ((29, 44), (54, 24)))
        self.assertEqual(frame(HAT, "l", 0, 1, 3), expected)
        self.assertTrue(is_plain(expected))
        # A place that is no pair of integers without the factor.
        world = one_line((0, 0), (1, 1), (1, 0))
        self.assertEqual(frame(world, "l", 0, 1, 2), one_line((0, 0), (3, 2), (4, 0)))
        self.assertEqual(frame(world, "l", 0, 9999, 10000), one_line((0, 0), (10001, 2), (20000, 0)))

    def test_the_sizes_of_labels_stay(self):
        self.assertEqual(frame(HAT, "k", 0, 1, 5)[2], (("m", 70, -20, 3, 1000000),))

    def test_it_is_the_moment(self):
        for seed in range(30):
            world = flows.bent_map(seed, 20, 50)
            for line, number in flows.corners(world):
                for top, bottom in ((0, 3), (1, 3), (5, 8), (8, 8), (77, 1000)):
                    there = flows.at_moment(world, line, number, flows.Fraction(top, bottom))
                    now = frame(world, line, number, top, bottom)
                    self.assertEqual(now, moved(there, 2 * bottom, 0, 0))
                    self.assertTrue(is_plain(now))

    def test_places_at_10000(self):
        for top, bottom in ((0, 10000), (10000, 10000), (5000, 10000), (0, 1), (1, 1)):
            self.assertIs(is_map(frame(EDGE, "l", 0, top, bottom)), True)
        self.assertEqual(
            frame(EDGE, "l", 0, 10000, 10000),
            one_line((-200000000, 0), (0, 100000000), (200000000, 200000000)),
        )

    def test_it_need_not_be_legal(self):
        self.assertIs(is_legal(frame(TENT, "rim", 1, 0, 1)), True)
        self.assertIs(is_legal(frame(TENT, "rim", 1, 4, 5)), False)
        self.assertIs(is_legal(frame(TENT, "rim", 1, 1, 1)), True)
        self.assertIs(is_legal(frame(TENT, "rim", 0, 1, 1)), True)


class WrongValuesTest(unittest.TestCase):
    def test_no_legal_map(self):
        for world in NO_MAPS + ILLEGAL:
            bad_value(self, 0, frame, world, "rim", 0, 0, 1)
        bad_value(self, 0, frame, None, None, None, None, None)

    def test_places_beyond_10000(self):
        for x, y in ((10001, 0), (-10001, 0), (0, 10001), (0, -10001), (10 ** 9, 10 ** 9)):
            nodes, lines, marks = TENT
            bad_value(self, 0, frame, (nodes + (("c", x, y),), lines, marks), "rim", 0, 0, 1)
            bad_value(self, 0, frame, (nodes, lines, marks + (("c", x, y, 1, 1),)), "rim", 0, 0, 1)
            bent = (nodes, (("rim", "a", "b", ((x, y),)),), ())
            if is_legal(bent):
                bad_value(self, 0, frame, bent, "rim", 0, 0, 1)
            bad_value(self, 0, frame, (nodes + (("c", x, y),), lines, marks), None, None, None, None)

    def test_a_corner_beyond_10000(self):
        for corner in ((5, 10001), (5, -10001), (-10001, 1), (10001, 1)):
            bad_value(self, 0, frame, one_line((0, 0), corner, (10, 0)), "l", 0, 0, 1)
        for corner in ((5, 10000), (5, -10000), (-10000, 1), (10000, 1)):
            self.assertTrue(is_map(frame(one_line((0, 0), corner, (10, 0)), "l", 0, 0, 1)))

    def test_no_line(self):
        for line in NO_LINES:
            bad_value(self, 1, frame, TENT, line, 0, 0, 1)
            bad_value(self, 1, frame, TENT, line, None, None, None)
        bad_value(self, 1, frame, EMPTY, "rim", 0, 0, 1)

    def test_no_corner(self):
        for number in NO_INTEGERS + (-1, 3, 10 ** 30, -(10 ** 30)):
            bad_value(self, 2, frame, TENT, "rim", number, 0, 1)
            bad_value(self, 2, frame, TENT, "rim", number, None, None)
        bad_value(self, 2, frame, LINE, "ab", 0, 0, 1)

    def test_no_top(self):
        for top in NO_INTEGERS + (-1, -(10 ** 30)):
            for bottom in (1, 0, None, 10001):
                bad_value(self, 3, frame, TENT, "rim", 0, top, bottom)

    def test_no_bottom(self):
        for bottom in NO_INTEGERS + (0, -1, 10001, 10 ** 30, -(10 ** 30)):
            for top in (0, 1, 10001, 10 ** 30):
                bad_value(self, 4, frame, TENT, "rim", 0, top, bottom)
        for top, bottom in ((1, 0), (2, 1), (10000, 9999), (10001, 10000), (10 ** 30, 10000)):
            bad_value(self, 4, frame, TENT, "rim", 0, top, bottom)


if __name__ == "__main__":
    unittest.main()
