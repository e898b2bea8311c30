"""[3], [4], [6], [34]: what holds at every stage and moment, and the sizes of areas."""

import unittest
from fractions import Fraction

from cornerfade.areas import alike, area_of, areas, turn, twice
from cornerfade.fades import at_scale, fade, moment, scales, sizes, stage, stages
from cornerfade.maps import is_legal
from tests import flows, oracle
from tests.samples import (
    EMPTY, ILLEGAL, LEGAL, LINE, NESTED, NO_MAPS, STAR, TENT, bad_value, greatest_map, is_plain,
    moved, sides, with_marks,
)

# A ring with a bend to the left and one to the right on one of its lines.
RING = (
    (("a", 0, 0), ("b", 30, 0), ("c", 0, 30)),
    (
        ("ab", "a", "b", ((10, 3), (20, -3))), ("bc", "b", "c", ()), ("ca", "c", "a", ((-1, 15),)),
    ),
    (),
)
INNER = sides("ab.left", "bc.left", "ca.left")
OUTER = sides("ab.right", "bc.right", "ca.right")


def by_side(row):
    """What the area of each side has as its size, of one member of sizes."""
    return {side: twice_size for area, twice_size in row for side in area}


class SizesTest(unittest.TestCase):
    def test_a_ring(self):
        # The corner at the right, 30, adds to the outside and takes from the ring.
        self.assertEqual(fade(RING), (("ca", 0, 30), ("ab", 0, 90), ("ab", 1, 90)))
        found = sizes(RING)
        self.assertTrue(is_plain(found))
        # (10, 3) turns right: the area to the right of ab loses, the one to the left gains.
        self.assertEqual([dict(row)[INNER] for row in found], [930, 900, 990, 900])
        self.assertEqual([dict(row)[OUTER] for row in found], [None] * 4)

    def test_two_rings_side_by_side(self):
        # The line "mid" parts two areas that have a bound, and turns left, then right.
        world = (
            (("a", 0, 0), ("b", 0, 40), ("c", -30, 20), ("d", 30, 20)),
            (
                ("mid", "a", "b", ((4, 10), (-2, 30))),
                ("ac", "a", "c", ()), ("cb", "c", "b", ()), ("ad", "a", "d", ()), ("db", "d", "b", ()),
            ),
            (),
        )
        left, right = sides("mid.left", "ac.right", "cb.right"), sides("mid.right", "ad.left", "db.left")
        rows = [dict(row) for row in sizes(world)]
        # First the corner that turns right, (-2, 30), or the one that turns left, (4, 10).
        self.assertEqual(fade(world), (("mid", 1, 100), ("mid", 0, 160)))
        self.assertEqual([row[left] for row in rows], [1260, 1360, 1200])
        self.assertEqual([row[right] for row in rows], [1140, 1040, 1200])

    def test_one_area_on_both_sides(self):
        ring = ((("a", 0, 0), ("b", 90, 0), ("c", 0, 90), ("p", 10, 10), ("q", 30, 10)), (
            ("ab", "a", "b", ()), ("bc", "b", "c", ()), ("ca", "c", "a", ()),
            ("free", "p", "q", ((15, 20), (20, 5))),
        ), ())
        self.assertEqual(len(fade(ring)), 2)
        inner = area_of(ring, (1, 1))
        self.assertEqual([dict(row)[inner] for row in sizes(ring)], [8100] * 3)

    def test_without_a_bound(self):
        area = (("rim", "left"), ("rim", "right"))
        self.assertEqual(sizes(TENT), (((area, None),),) * 3)
        self.assertEqual(sizes(EMPTY), ((((), None),),))
        self.assertEqual(sizes(LINE), (((sides("ab.left", "ab.right"), None),),))

    def test_all_areas_in_their_order_at_every_stage(self):
        for world in LEGAL + (RING, greatest_map()):
            found = sizes(world)
            self.assertEqual(len(found), stages(world) + 1)
            self.assertTrue(is_plain(found))
            for n, row in enumerate(found):
                now = stage(world, n)
                self.assertEqual(tuple(area for area, _ in row), areas(now))
                self.assertEqual(tuple(area for area, _ in row), areas(world))
                self.assertEqual([size for _, size in row], [twice(now, area) for area in areas(now)])

    def test_near_the_bounds(self):
        far = moved(RING, 30000000, 100000000, -900000000)
        unit = 30000000 ** 2
        self.assertEqual(
            [dict(row)[INNER] for row in sizes(far)], [930 * unit, 900 * unit, 990 * unit, 900 * unit],
        )

    def test_no_legal_map(self):
        for world in NO_MAPS + ILLEGAL:
            bad_value(self, 0, sizes, world)


class ChangesTest(unittest.TestCase):
    """[6]: what the drop of a corner takes from one area, it adds to another one."""

    def check(self, world):
        drops, maps, _ = flows.stages(world)
        found = sizes(world)
        seen = set()
        for n, (line, number, size) in enumerate(drops):
            at = number - len([k for name, k, _ in drops[:n] if name == line and k < number])
            left = flows.across(*flows.path_of(maps[n], line)[at:at + 3]) > 0
            before, after = by_side(found[n]), by_side(found[n + 1])
            own = [area for area, _ in found[n] if (line, "left") in area][0]
            joint = (line, "right") in own
            for side, old in before.items():
                if old is None:
                    self.assertIsNone(after[side])
                    continue
                borders_left = side in own
                borders_right = side in [
                    area for area, _ in found[n] if (line, "right") in area
                ][0]
                change = (size if borders_right else 0) - (size if borders_left else 0)
                if joint or size == 0:
                    change = 0
                self.assertEqual(after[side] - old, change if left else -change)
                seen.add((left, joint, change > 0, change < 0))
        return seen

    def test_random_maps(self):
        seen = set()
        for seed in range(150):
            seen |= self.check(flows.bent_map(seed, (6, 9, 20)[seed % 3], 120))
        # Both turns, areas that lose and gain, and lines with one area on both sides.
        for left in (True, False):
            for rest in ((False, True, False), (False, False, True), (True, False, False)):
                self.assertIn((left, *rest), seen)

    def test_rings(self):
        self.assertTrue(self.check(RING))
        self.assertTrue(self.check(NESTED))
        self.assertTrue(self.check(greatest_map()))


class EveryStageTest(unittest.TestCase):
    """[3], [4]: legal and alike at every stage, scale and moment."""

    def test_stages_and_scales(self):
        worlds = [flows.bent_map(seed, (6, 9, 20)[seed % 3], 120) for seed in range(40)]
        for world in worlds + [RING, NESTED, STAR, TENT]:
            for n in range(stages(world) + 1):
                now = stage(world, n)
                self.assertIs(is_legal(now), True)
                self.assertFalse(oracle.faults(now))
                self.assertIs(alike(world, now), True)
            for scale in (0,) + scales(world):
                now = at_scale(world, scale)
                self.assertIs(is_legal(now) and alike(world, now), True)

    def test_moments(self):
        worlds = [flows.bent_map(seed, (6, 9, 20)[seed % 3], 80) for seed in range(30)]
        for world in worlds + [RING, NESTED, STAR, TENT]:
            for number in range(stages(world)):
                for top, bottom in ((0, 1), (1, 3), (1, 2), (4, 7), (9999, 10000), (1, 1)):
                    now = moment(world, number, top, bottom)
                    self.assertIs(is_legal(now), True)
                    # The same map but for its scale: areas, turns, and areas of marks and nodes.
                    self.assertIs(alike(moved(world, 2 * bottom, 0, 0), now), True)
                    self.assertEqual(areas(now), areas(world))
                    for node in world[0]:
                        self.assertEqual(turn(now, node[0]), turn(world, node[0]))
                    for mark, there in zip(world[2], now[2]):
                        self.assertEqual(area_of(now, there[1:3]), area_of(world, mark[1:3]))

    def test_moments_at_which_something_might_happen(self):
        for seed in range(100, 120):
            world = flows.bent_map(seed, (5, 7)[seed % 2], 60, 5)
            drops, maps, _ = flows.stages(world)
            for n, (line, number, _) in enumerate(drops):
                at = number - len([k for name, k, _ in drops[:n] if name == line and k < number])
                for share in flows.moments(maps[n], line, at):
                    now = moment(world, n, share.numerator, share.denominator)
                    self.assertIs(is_legal(now), True)
                    self.assertIs(alike(moved(world, 2 * share.denominator, 0, 0), now), True)
                self.assertTrue(flows.always_legal(maps[n], line, at))

    def test_a_mark_stays_on_its_side(self):
        world = with_marks(RING, (10, 2), (20, -2), (5, 5), (15, 1))
        self.assertEqual(fade(world), (("ca", 0, 30),))
        for n in range(stages(world) + 1):
            places = [area_of(stage(world, n), mark[1:3]) for mark in world[2]]
            self.assertEqual(places, [OUTER, INNER, INNER, INNER])

    def test_shares_are_exact(self):
        # The mark is a hair beyond the side to which the corner flows.
        world = with_marks(((("a", 0, 0), ("b", 10000, 1)), (("l", "a", "b", ((0, 9999),)),), ()), (9999, 0))
        self.assertEqual(len(fade(world)), 1)
        for top in (0, 9998, 9999, 10000):
            now = moment(world, 0, top, 10000)
            self.assertIs(is_legal(now), True)
            there = flows.at_moment(world, "l", 0, Fraction(top, 10000))
            self.assertEqual(now, moved(there, 20000, 0, 0))


if __name__ == "__main__":
    unittest.main()
