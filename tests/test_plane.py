"""The geometry that the modules build on, against slower ways on a small grid."""

import unittest
from itertools import product

from cornerfade.plane import (
    box_meets, boxes_touch, on_same_ray, on_segment, segments_meet, surrounds, twice_around,
)
from tests import boxes, oracle

GRID = tuple(product(range(3), range(3)))
FAR = 1000000000


class PlaneTest(unittest.TestCase):
    def test_on_segment(self):
        for place, one, other in product(GRID, GRID, GRID):
            expected = oracle.share_of(place, one, other) is not None
            self.assertIs(on_segment(place, (one, other)), expected)

    def test_segments_meet(self):
        segments = list(product(GRID, GRID))
        for one, other in product(segments, segments):
            if one[0] != one[1] and other[0] != other[1]:
                self.assertIs(segments_meet(one, other), bool(oracle.common(one, other)))

    def test_box_meets(self):
        # Boxes within a grid that is wider than they are, of every size, flat ones, too.
        wide = tuple(product(range(5), range(5)))
        segments = [(one, other) for one, other in product(wide, wide) if one != other]
        for x, y, right, up in product((1, 2), (1, 2), (0, 1, 2), (0, 1)):
            mark = ("m", x, y, right, up)
            for one, other in segments:
                expected = boxes.meets_segment(mark, one, other)
                self.assertIs(box_meets(((x, y), (x + right, y + up)), (one, other)), expected)

    def test_boxes_touch(self):
        sizes = tuple(product(GRID, ((0, 0), (0, 1), (1, 0), (1, 1), (2, 1))))
        for ((x, y), (a, b)), ((u, v), (c, d)) in product(sizes, sizes):
            expected = boxes.meets_label(("m", x, y, a, b), ("n", u, v, c, d))
            found = boxes_touch(((x, y), (x + a, y + b)), ((u, v), (u + c, v + d)))
            self.assertIs(found, expected)

    def test_on_same_ray(self):
        for base, one, other in product(GRID, GRID, GRID):
            if base not in (one, other):
                shares = oracle.share_of(one, base, other), oracle.share_of(other, base, one)
                self.assertIs(on_same_ray(base, one, other), shares != (None, None))

    def test_walks(self):
        # A ring with a dead end into it, walked on both sides, and one that points outwards.
        walk = [(0, 0), (4, 0), (4, 4), (2, 4), (2, 2), (2, 4), (0, 4), (-3, 4), (0, 4)]
        for places, sign in ((walk, 1), (walk[::-1], -1)):
            for shift in range(len(walk)):
                turned = places[shift:] + places[:shift]
                self.assertEqual(twice_around(turned), 32 * sign)
                for place in ((1, 1), (1, 2), (3, 2), (1, 3), (3, 3), (2, 1)):
                    self.assertIs(surrounds(turned, place), True, place)
                for place in ((-1, 0), (-1, 2), (5, 0), (5, 4), (-2, 5), (2, -1), (-5, 4), (-2, 3)):
                    self.assertIs(surrounds(turned, place), False, place)

    def test_walks_around_nothing(self):
        self.assertEqual(twice_around([(0, 0), (5, 7)]), 0)
        self.assertIs(surrounds([(0, 0), (5, 7)], (2, 3)), False)

    def test_far_away(self):
        self.assertIs(on_segment((FAR - 1, FAR - 1), ((-FAR, -FAR), (FAR, FAR))), True)
        self.assertIs(on_segment((FAR - 1, FAR - 2), ((-FAR, -FAR), (FAR, FAR))), False)
        square = [(-FAR, -FAR), (FAR, -FAR), (FAR, FAR), (-FAR, FAR)]
        self.assertEqual(twice_around(square), 8 * FAR * FAR)
        self.assertIs(surrounds(square, (FAR - 1, 0)), True)
        self.assertIs(surrounds(square, (FAR + 1, 0)), False)


if __name__ == "__main__":
    unittest.main()
