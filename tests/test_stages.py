"""[30], [31], [32]: stages, scales and moments of a fade."""

import unittest

from cornerfade.drops import frame
from cornerfade.errors import NoStage
from cornerfade.fades import at_scale, fade, moment, scales, stage, stages
from cornerfade.maps import is_legal
from tests import flows
from tests.samples import (
    EMPTY, ILLEGAL, LEGAL, LINE, NESTED, NO_INTEGERS, NO_MAPS, STEPS, TENT, bad_value, greatest_map,
    is_plain, listed, moved, one_line, with_marks,
)


def no_stage(test, passed, call, *args):
    """Asserts that the call raises NoStage with the very thing that was passed."""
    with test.assertRaises(NoStage) as caught:
        call(*args)
    test.assertIs(type(caught.exception), NoStage)
    test.assertIs(caught.exception.number, passed)


class StageTest(unittest.TestCase):
    def test_all_stages(self):
        kept = (
            ((2, 6), (6, 6), (9, 1), (12, 1)), ((2, 6), (6, 6), (9, 1)), ((2, 6), (9, 1)),
            ((9, 1),), (),
        )
        self.assertEqual(stages(STEPS), 4)
        for n, corners in enumerate(kept):
            found = stage(STEPS, n)
            self.assertEqual(found, flows.with_corners(STEPS, "l", corners))
            self.assertTrue(is_plain(found))

    def test_stage_0_is_the_map(self):
        for world in LEGAL + (greatest_map(),):
            self.assertEqual(stage(world, 0), world)
            self.assertEqual(stage(listed(world), 0), world)
            self.assertTrue(is_plain(stage(listed(world), 0)))

    def test_without_drops(self):
        for world in (EMPTY, LINE):
            self.assertEqual(stages(world), 0)
            self.assertEqual(stage(world, 0), world)
            no_stage(self, 1, stage, world, 1)

    def test_several_lines(self):
        self.assertEqual(stages(NESTED), 2)
        for n in range(3):
            left = dict(stage_corners(stage(NESTED, n)))
            gone = [row[:2] for row in fade(NESTED)[:n]]
            for line, corners in stage_corners(NESTED):
                expected = [c for k, c in enumerate(corners) if (line, k) not in gone]
                self.assertEqual(list(left[line]), expected)

    def test_no_stage(self):
        for world, many in ((STEPS, 4), (TENT, 2), (EMPTY, 0)):
            for number in NO_INTEGERS + (-1, many + 1, many + 2, 10 ** 30, -(10 ** 30)):
                no_stage(self, number, stage, world, number)

    def test_no_legal_map(self):
        for world in NO_MAPS + ILLEGAL:
            bad_value(self, 0, stage, world, 0)
            bad_value(self, 0, stages, world)
            bad_value(self, 0, scales, world)
            bad_value(self, 0, at_scale, world, 0)
        bad_value(self, 0, stage, None, None)
        bad_value(self, 0, at_scale, None, None)


def stage_corners(world):
    """(line, corners) of every line."""
    return [(line[0], line[3]) for line in world[1]]


class ScaleTest(unittest.TestCase):
    def test_they_stay_while_sizes_fall(self):
        self.assertEqual([size for _, _, size in fade(STEPS)], [0, 20, 52, 11])
        self.assertEqual(scales(STEPS), (0, 20, 52, 52))
        self.assertTrue(is_plain(scales(STEPS)))
        self.assertEqual(scales(TENT), (7, 7))
        self.assertEqual(scales(EMPTY), ())

    def test_at_each_scale_below_and_above(self):
        for scale, n in (
            (0, 1), (1, 1), (19, 1), (20, 2), (21, 2), (51, 2), (52, 4), (53, 4), (10 ** 30, 4),
        ):
            self.assertEqual(at_scale(STEPS, scale), stage(STEPS, n))
        for scale, n in ((0, 0), (6, 0), (7, 2), (8, 2), (10 ** 30, 2)):
            self.assertEqual(at_scale(TENT, scale), stage(TENT, n))
            self.assertTrue(is_plain(at_scale(TENT, scale)))

    def test_far_out(self):
        far = moved(STEPS, 50000000, -500000000, 7)
        unit = 50000000 ** 2
        self.assertEqual(scales(far), (0, 20 * unit, 52 * unit, 52 * unit))
        self.assertEqual(at_scale(far, 20 * unit - 1), stage(far, 1))
        self.assertEqual(at_scale(far, 20 * unit), stage(far, 2))

    def test_random_maps(self):
        for seed in range(40):
            world = flows.bent_map(seed, (6, 20)[seed % 2], 100)
            drops, maps, _ = flows.stages(world)
            sizes = [size for _, _, size in drops]
            expected = tuple(max(sizes[:n + 1]) for n in range(len(sizes)))
            self.assertEqual(scales(world), expected)
            for scale in {0, 10 ** 30} | {s + d for s in expected for d in (-1, 0, 1) if s + d >= 0}:
                n = len([s for s in expected if s <= scale])
                self.assertEqual(at_scale(world, scale), maps[n])

    def test_no_scale(self):
        for scale in NO_INTEGERS + (-1, -(10 ** 30)):
            bad_value(self, 1, at_scale, STEPS, scale)
            bad_value(self, 1, at_scale, EMPTY, scale)


class MomentTest(unittest.TestCase):
    def test_the_first_and_the_last_drop(self):
        self.assertEqual(moment(TENT, 0, 1, 2), frame(TENT, "rim", 0, 1, 2))
        self.assertEqual(moment(TENT, 1, 1, 2), frame(stage(TENT, 1), "rim", 1, 1, 2))
        self.assertEqual(moment(STEPS, 0, 0, 1), moved(STEPS, 2, 0, 0))
        # The last one alone is there, and flows to the middle of the line.
        self.assertEqual(moment(STEPS, 3, 1, 1), one_line((0, 0), (20, 1), (40, 2)))
        self.assertTrue(is_plain(moment(STEPS, 3, 1, 1)))

    def test_the_corner_among_those_that_are_left(self):
        for seed in range(40):
            world = flows.bent_map(seed, (6, 20)[seed % 2], 100)
            drops, maps, _ = flows.stages(world)
            for n, (line, number, _) in enumerate(drops):
                earlier = [k for name, k, _ in drops[:n] if name == line and k < number]
                for top, bottom in ((0, 1), (1, 1), (3, 7), (9999, 10000)):
                    found = moment(world, n, top, bottom)
                    at = number - len(earlier)
                    self.assertEqual(found, frame(maps[n], line, at, top, bottom))
                    self.assertIs(is_legal(found), True)

    def test_at_10000(self):
        world = one_line((-10000, -10000), (0, 10000), (10000, -10000))
        self.assertEqual(
            moment(world, 0, 1, 10000),
            one_line((-200000000, -200000000), (0, 199960000), (200000000, -200000000)),
        )

    def test_no_legal_map_or_one_too_wide(self):
        for world in NO_MAPS + ILLEGAL:
            bad_value(self, 0, moment, world, 0, 0, 1)
        bad_value(self, 0, moment, None, None, None, None)
        for x, y in ((10001, 0), (0, -10001), (10 ** 9, 10 ** 9)):
            bad_value(self, 0, moment, with_marks(TENT, (5, 2), (x, y)), 0, 0, 1)
            bad_value(self, 0, moment, with_marks(EMPTY, (x, y)), None, None, None)

    def test_a_corner_too_far_out_counts_at_every_moment(self):
        # It is dropped first; yet the given map is too wide for its second drop, too.
        world = one_line((0, 0), (0, -10000), (1, -10001), (2, -10000), (10000, 0))
        self.assertEqual(fade(world)[0][:2], ("l", 1))
        bad_value(self, 0, moment, world, 1, 0, 1)

    def test_no_stage(self):
        for world, many in ((STEPS, 4), (TENT, 2), (EMPTY, 0), (LINE, 0)):
            for number in NO_INTEGERS + (-1, many, many + 1, 10 ** 30, -(10 ** 30)):
                no_stage(self, number, moment, world, number, 0, 1)
                no_stage(self, number, moment, world, number, None, None)

    def test_no_top(self):
        for top in NO_INTEGERS + (-1, -(10 ** 30)):
            for bottom in (1, 0, None, 10001):
                bad_value(self, 2, moment, TENT, 1, top, bottom)

    def test_no_bottom(self):
        for bottom in NO_INTEGERS + (0, -1, 10001, 10 ** 30, -(10 ** 30)):
            for top in (0, 1, 10001, 10 ** 30):
                bad_value(self, 3, moment, TENT, 1, top, bottom)
        for top, bottom in ((1, 0), (2, 1), (10000, 9999), (10001, 10000)):
            bad_value(self, 3, moment, TENT, 1, top, bottom)


if __name__ == "__main__":
    unittest.main()
