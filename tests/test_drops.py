"""[1], [2], [25], [26], [27]: triangles, corners that can be dropped, and bars."""

import unittest

from cornerfade.drops import barred_by, can_drop, dropped, frame, size, triangle
from cornerfade.errors import CannotDrop
from cornerfade.maps import is_legal
from tests import flows, oracle
from tests.samples import (
    EMPTY, ILLEGAL, LINE, NO_INTEGERS, NO_LINES, NO_MAPS, TENT, bad_value, is_plain, moved, one_line,
    with_marks,
)

HAT = one_line((0, 0), (5, 10), (10, 0))
STEPS = one_line((0, 0), (2, 6), (6, 6), (9, 1), (12, 1), (20, 1))
FAR = 1000000000


class TriangleTest(unittest.TestCase):
    def test_at_the_start_in_the_middle_and_at_the_end(self):
        self.assertEqual(triangle(STEPS, "l", 0), ((0, 0), (2, 6), (6, 6)))
        self.assertEqual(triangle(STEPS, "l", 1), ((2, 6), (6, 6), (9, 1)))
        self.assertEqual(triangle(STEPS, "l", 3), ((9, 1), (12, 1), (20, 1)))
        self.assertEqual(triangle(HAT, "l", 0), ((0, 0), (5, 10), (10, 0)))
        self.assertTrue(is_plain(triangle(STEPS, "l", 1)))

    def test_sizes(self):
        self.assertEqual([size(STEPS, "l", k) for k in range(4)], [24, 20, 15, 0])
        self.assertEqual(size(HAT, "l", 0), 100)
        self.assertEqual(size(moved(HAT, -1, 0, 0), "l", 0), 100)
        self.assertEqual(size(one_line((10, 0), (5, 10), (0, 0)), "l", 0), 100)
        self.assertEqual([size(TENT, "rim", k) for k in range(3)], [7, 30, 7])

    def test_sizes_near_the_bounds(self):
        world = one_line((-FAR, -FAR), (FAR, -FAR), (FAR, FAR), (-FAR, FAR - 1))
        self.assertEqual(size(world, "l", 0), 4 * FAR ** 2)
        self.assertEqual(size(world, "l", 1), 4 * FAR ** 2)
        world = one_line((-FAR, -FAR), (0, 0), (FAR, FAR - 1))
        self.assertEqual(size(world, "l", 0), FAR)
        world = one_line((-FAR, -FAR), (1 - FAR, 1 - FAR), (FAR, FAR))
        self.assertEqual(size(world, "l", 0), 0)

    def test_a_line_of_another_name(self):
        nodes, lines, marks = TENT
        world = (nodes + (("c", 0, 50),), lines + (("ac", "c", "a", ((-5, 20),)),), marks)
        self.assertEqual(triangle(world, "ac", 0), ((0, 50), (-5, 20), (0, 0)))
        self.assertEqual(triangle(world, "rim", 0), ((0, 0), (2, 1), (5, 6)))


class BarsTest(unittest.TestCase):
    def free(self, world, line, number):
        self.assertIs(is_legal(world), True)
        self.assertIs(can_drop(world, line, number), True)
        self.assertIsNone(barred_by(world, line, number))
        self.assertTrue(flows.always_legal(world, line, number))
        left = dropped(world, line, number)
        rest = flows.path_of(world, line)[1:-1]
        del rest[number]
        self.assertEqual(left, flows.with_corners(world, line, rest))
        self.assertTrue(is_plain(left))
        self.assertIs(is_legal(left), True)

    def barred(self, world, line, number, *points):
        self.assertIs(is_legal(world), True)
        self.assertIs(can_drop(world, line, number), False)
        self.assertIn(barred_by(world, line, number), points)
        self.assertTrue(is_plain(barred_by(world, line, number)))
        self.assertFalse(flows.always_legal(world, line, number))
        with self.assertRaises(CannotDrop) as caught:
            dropped(world, line, number)
        self.assertIs(type(caught.exception), CannotDrop)
        self.assertIn(caught.exception.point, points)
        self.assertTrue(is_plain(caught.exception.point))

    def test_nothing_in_the_triangle(self):
        self.free(HAT, "l", 0)
        self.free(with_marks(HAT, (20, 20), (0, 9), (5, 11), (5, -1)), "l", 0)
        self.free(TENT, "rim", 0)
        self.free(TENT, "rim", 2)

    def test_a_mark(self):
        self.barred(TENT, "rim", 1, (5, 2))
        self.barred(with_marks(HAT, (5, 1)), "l", 0, (5, 1))
        self.barred(with_marks(HAT, (5, 9)), "l", 0, (5, 9))
        self.barred(with_marks(HAT, (5, 12), (4, 2), (6, 2), (5, -3)), "l", 0, (4, 2), (6, 2))

    def test_a_node(self):
        nodes, lines, marks = HAT
        self.barred((nodes + (("c", 5, 4),), lines, marks), "l", 0, (5, 4))
        self.free((nodes + (("c", 50, 4),), lines, marks), "l", 0)
        self.free((nodes + (("c", 5, -1),), lines, marks), "l", 0)

    def test_a_corner_of_another_line(self):
        nodes, lines, marks = HAT
        nodes = nodes + (("c", 0, -5), ("d", 10, -5))
        self.barred((nodes, lines + (("k", "c", "d", ((5, 5),)),), marks), "l", 0, (5, 5))
        self.barred((nodes, lines + (("k", "d", "c", ((5, 0),)),), marks), "l", 0, (5, 0))
        self.free((nodes, lines + (("k", "c", "d", ((5, -1),)),), marks), "l", 0)

    def test_a_corner_of_the_same_line(self):
        hook = one_line((0, 0), (5, 10), (10, 0), (12, -5), (5, -5), (5, 5), (4, -20))
        self.barred(hook, "l", 0, (5, 5))
        self.barred(one_line(*reversed(flows.path_of(hook, "l"))), "l", 4, (5, 5))
        low = one_line((0, 0), (5, 10), (10, 0), (12, -5), (5, -5), (5, -1), (4, -20))
        self.free(low, "l", 0)

    def test_an_end_of_the_same_line(self):
        self.barred(one_line((0, 0), (5, 10), (10, 0), (5, -5), (5, 5)), "l", 0, (5, 5))
        self.barred(one_line((5, 5), (5, -5), (10, 0), (5, 10), (0, 0)), "l", 2, (5, 5))
        self.free(one_line((0, 0), (5, 10), (10, 0), (5, -5), (5, -1)), "l", 0)

    def test_on_the_side_between_the_neighbours(self):
        for place in ((1, 0), (5, 0), (9, 0)):
            self.barred(with_marks(HAT, place), "l", 0, place)
        for place in ((-1, 0), (11, 0)):
            self.free(with_marks(HAT, place), "l", 0)

    def test_straight_behind_the_ends_of_the_sides(self):
        for place in ((-1, -2), (6, 12), (4, 12), (11, -2)):
            self.free(with_marks(HAT, place), "l", 0)

    def test_flat_triangles(self):
        flat = one_line((0, 0), (3, 3), (9, 9), (9, 0))
        self.free(flat, "l", 0)
        self.free(with_marks(flat, (-1, -1), (10, 10), (3, 4), (4, 3)), "l", 0)
        self.free(one_line((0, 0), (0, 3), (0, 4)), "l", 0)
        self.barred(with_marks(flat, (7, 6)), "l", 1, (7, 6))

    def test_a_flat_corner_that_is_in_a_triangle(self):
        nodes, lines, marks = HAT
        nodes = nodes + (("c", 3, 0), ("d", 7, 0))
        world = (nodes, lines + (("k", "c", "d", ((5, 0),)),), marks)
        self.free(world, "k", 0)
        self.barred(world, "l", 0, (3, 0), (5, 0), (7, 0))

    def test_near_misses_far_out(self):
        wide = one_line((-FAR, -FAR), (0, FAR), (FAR, -FAR))
        self.barred(with_marks(wide, (0, FAR - 1)), "l", 0, (0, FAR - 1))
        self.barred(with_marks(wide, (FAR - 1, -FAR)), "l", 0, (FAR - 1, -FAR))
        self.free(with_marks(wide, (FAR, 1 - FAR), (-1, FAR), (1, FAR)), "l", 0)
        slim = one_line((-FAR, -FAR), (0, 1), (FAR, FAR))
        self.barred(with_marks(slim, (0, 0)), "l", 0, (0, 0))
        self.free(with_marks(slim, (1, 0), (-1, 0), (0, 2)), "l", 0)

    def test_random_maps(self):
        free = barred = 0
        for seed in range(80):
            world = flows.bent_map(seed, (5, 7, 12)[seed % 3], 100)
            for line, number in flows.corners(world):
                bars = flows.bars(world, line, number)
                place = barred_by(world, line, number)
                self.assertIs(can_drop(world, line, number), not bars)
                self.assertTrue(place in bars if bars else place is None)
                free, barred = free + (not bars), barred + bool(bars)
        self.assertGreater(free, 100)
        self.assertGreater(barred, 100)


class EveryMomentTest(unittest.TestCase):
    """[1]: legal at every moment, exactly if no other point lies in the triangle."""

    def test_random_maps(self):
        seen = {True: 0, False: 0}
        for seed in range(100, 130):
            world = flows.bent_map(seed, (5, 6, 8)[seed % 3], 50, 5)
            for line, number in flows.corners(world):
                answer = can_drop(world, line, number)
                seen[answer] += 1
                self.assertIs(flows.always_legal(world, line, number), answer)
        self.assertGreater(min(seen.values()), 15)

    def test_frames(self):
        seen = {True: 0, False: 0}
        for seed in range(200, 230):
            world = flows.bent_map(seed, (5, 6, 8)[seed % 3], 50, 5)
            for line, number in flows.corners(world):
                told = flows.moments(world, line, number)
                told += [(one + other) / 2 for one, other in zip(told, told[1:])]
                legal = []
                for share in told:
                    top, bottom = share.numerator, share.denominator
                    now = frame(world, line, number, top, bottom)
                    legal.append(is_legal(now))
                    there = flows.at_moment(world, line, number, share)
                    self.assertIs(legal[-1], not oracle.faults(there))
                self.assertIs(can_drop(world, line, number), all(legal))
                seen[all(legal)] += 1
        self.assertGreater(min(seen.values()), 15)

    def test_the_line_passes_over_the_bar(self):
        # [2]: at some moment the bar is on one of the two moving segments.
        for seed in range(300, 330):
            world = flows.bent_map(seed, 7, 50, 5)
            for line, number in flows.corners(world):
                bar = barred_by(world, line, number)
                if bar is not None:
                    met = False
                    for share in flows.moments(world, line, number):
                        now = flows.path_of(flows.at_moment(world, line, number, share), line)
                        before, corner, after = now[number:number + 3]
                        met = met or oracle.share_of(bar, before, corner) is not None
                        met = met or oracle.share_of(bar, corner, after) is not None
                    self.assertTrue(met)


class WrongValuesTest(unittest.TestCase):
    calls = (triangle, size, can_drop, barred_by, dropped)

    def test_no_legal_map(self):
        for call in self.calls:
            for world in NO_MAPS + ILLEGAL:
                bad_value(self, 0, call, world, "rim", 0)
            bad_value(self, 0, call, None, None, None)

    def test_no_line(self):
        for call in self.calls:
            for line in NO_LINES:
                bad_value(self, 1, call, TENT, line, 0)
                bad_value(self, 1, call, TENT, line, None)
            for line in ("a", "b", "hut"):
                bad_value(self, 1, call, TENT, line, 0)
            bad_value(self, 1, call, EMPTY, "rim", 0)

    def test_no_corner(self):
        for call in self.calls:
            for number in NO_INTEGERS + (-1, 3, 4, 10 ** 30, -(10 ** 30)):
                bad_value(self, 2, call, TENT, "rim", number)
            bad_value(self, 2, call, LINE, "ab", 0)
            bad_value(self, 2, call, LINE, "ab", -1)


if __name__ == "__main__":
    unittest.main()
