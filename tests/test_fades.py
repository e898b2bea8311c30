"""[5], [29], [33]: fades, and the corners that stay."""

import unittest

from cornerfade.drops import can_drop
from cornerfade.fades import fade, stage, stages, stays
from cornerfade.thinnings import is_clear
from tests import flows
from tests.samples import (
    EMPTY, ILLEGAL, LINE, NESTED, NO_MAPS, STAR, TENT, bad_value, greatest_map, is_plain, moved,
    one_line, with_marks,
)


def hats(*names):
    """Lines of one hat each, side by side, all of one size."""
    nodes, lines = [], []
    for k, name in enumerate(names):
        start, end = "a" + "abcdefgh"[k], "b" + "abcdefgh"[k]
        nodes += [(start, 20 * k, 0), (end, 20 * k + 10, 0)]
        lines.append((name, start, end, ((20 * k + 5, 7),)))
    return tuple(nodes), tuple(lines), ()


class FadeTest(unittest.TestCase):
    def test_the_example(self):
        self.assertEqual(fade(TENT), (("rim", 0, 7), ("rim", 2, 7)))
        self.assertEqual(stays(TENT), (("rim", 1, (5, 2)),))

    def test_without_a_corner(self):
        for world in (EMPTY, LINE):
            self.assertEqual(fade(world), ())
            self.assertEqual(stays(world), ())
        self.assertEqual(fade(((("a", 1, 1),), (), (("m", 0, 0, 1, 1),))), ())

    def test_all_corners_of_a_line_alone_are_dropped(self):
        world = one_line((0, 0), (2, 6), (6, 6), (9, 1), (12, 1), (20, 1))
        drops = fade(world)
        # The flat corner first; then the sizes are 24, 20, 55, then 52, 55, then 11.
        self.assertEqual(drops, (("l", 3, 0), ("l", 1, 20), ("l", 0, 52), ("l", 2, 11)))
        self.assertEqual(stays(world), ())
        self.assertTrue(is_plain(drops))

    def test_smallest_first(self):
        # Sizes 50, 10 and 30 on lines of their own.
        nodes, lines, marks = hats("one", "two", "three")
        lines = tuple(
            line[:3] + (((20 * k + 5, high),),) for k, (line, high) in enumerate(zip(lines, (5, 1, 3)))
        )
        world = (nodes, lines, marks)
        self.assertEqual(fade(world), (("two", 0, 10), ("three", 0, 30), ("one", 0, 50)))

    def test_equal_sizes_on_lines_of_different_names(self):
        for names in (("b", "a", "c"), ("c", "b", "a"), ("ab", "b", "a"), ("z", "aaaaaaaa", "za")):
            drops = fade(hats(*names))
            self.assertEqual(drops, tuple((name, 0, 70) for name in sorted(names)))

    def test_equal_sizes_on_one_line(self):
        # Four corners; the outer ones and the inner ones have triangles of one size.
        world = one_line((0, 0), (10, 10), (20, 0), (30, 0), (40, 10), (50, 0))
        drops = fade(world)
        self.assertEqual(drops[0], ("l", 1, 100))
        self.assertEqual(drops, flows.stages(world)[0])
        back = one_line(*reversed(flows.path_of(world, "l")))
        self.assertEqual(fade(back)[0], ("l", 1, 100))

    def test_equal_sizes_on_one_line_and_on_another_one(self):
        nodes, lines, marks = hats("m", "k")
        lines = (("m", "aa", "ba", ((2, 7), (8, 7))), lines[1][:3] + (((25, 7),),))
        # Each of the two corners of m has the size 6 * 7, then the one that is left has 70.
        world = (nodes, lines, marks)
        self.assertEqual(fade(world), (("m", 0, 42), ("k", 0, 70), ("m", 1, 70)))

    def test_a_drop_changes_the_sizes_of_the_neighbours(self):
        world = one_line((0, 0), (1, 5), (5, 6), (9, 5), (10, 0))
        self.assertEqual(fade(world), (("l", 1, 8), ("l", 0, 40), ("l", 2, 50)))

    def test_flat_corners_come_first(self):
        world = one_line((0, 0), (3, 0), (5, 1), (7, 2), (9, 0))
        self.assertEqual(fade(world), (("l", 1, 0), ("l", 0, 6), ("l", 2, 18)))
        flat = one_line((0, 0), (5, 9), (7, 9), (9, 9), (20, 9), (22, 0))
        self.assertEqual(fade(flat)[:2], (("l", 1, 0), ("l", 2, 0)))

    def test_a_corner_that_becomes_free_as_another_one_is_dropped(self):
        # The corner of low is in the triangle of high; it is the smaller one, and goes first.
        nodes = (("a", 0, 0), ("b", 20, 0), ("c", 2, -5), ("d", 18, -5))
        world = (nodes, (("high", "a", "b", ((10, 20),)), ("low", "c", "d", ((10, 5),))), ())
        self.assertIs(can_drop(world, "high", 0), False)
        self.assertEqual(fade(world), (("low", 0, 160), ("high", 0, 400)))
        self.assertEqual(stays(world), ())

    def test_a_bar_that_goes_leaves_others(self):
        nodes = (("a", 0, 0), ("b", 20, 0), ("c", 2, -5), ("d", 18, -5))
        lines = (("high", "a", "b", ((10, 20),)), ("low", "c", "d", ((10, 5),)))
        world = (nodes, lines, (("m", 10, 6, 1, 1),))
        self.assertEqual(fade(world), (("low", 0, 160),))
        self.assertEqual(stays(world), (("high", 0, (10, 6)),))
        # Under both of them the mark bars low, and the corner of low bars high for good.
        world = (nodes, lines, (("m", 10, 1, 1, 1),))
        self.assertEqual(fade(world), ())
        self.assertEqual([row[:2] for row in stays(world)], [("high", 0), ("low", 0)])
        self.assertEqual(stays(world)[1], ("low", 0, (10, 1)))
        self.assertIn(stays(world)[0][2], ((10, 5), (10, 1)))

    def test_a_corner_that_a_new_triangle_bars(self):
        # Once the first corner is gone, the mark is in the triangle of the second one.
        world = with_marks(one_line((0, 0), (0, 10), (10, 12), (12, 0)), (4, 3))
        self.assertIs(can_drop(world, "l", 0), True)
        self.assertIs(can_drop(world, "l", 1), True)
        self.assertEqual(fade(world), (("l", 0, 100),))
        self.assertEqual(stays(world), (("l", 1, (4, 3)),))

    def test_numbers_in_the_given_map(self):
        world = with_marks(one_line((0, 0), (1, 5), (5, 6), (9, 5), (10, 0)), (5, 1))
        self.assertEqual(fade(world), (("l", 1, 8), ("l", 0, 40)))
        self.assertEqual(stays(world), (("l", 2, (5, 1)),))

    def test_numbers_near_the_bounds(self):
        for world in (TENT, NESTED, STAR):
            far = moved(world, 1000000, 500000000, -900000000)
            expected = tuple((line, k, size * 10 ** 12) for line, k, size in fade(world))
            self.assertEqual(fade(far), expected)

    def test_random_maps(self):
        dropped = left = 0
        for seed in range(60):
            world = flows.bent_map(seed, (5, 6, 8, 12, 40)[seed % 5], (50, 100, 150)[seed % 3])
            drops, maps, corners = flows.stages(world)
            self.assertEqual(fade(world), drops)
            self.assertEqual(stages(world), len(drops))
            self.assertTrue(is_plain(fade(world)))
            for n, expected in enumerate(maps):
                self.assertEqual(stage(world, n), expected)
            self.check_stays(world, maps[-1], corners)
            dropped, left = dropped + len(drops), left + len(corners)
        self.assertGreater(dropped, 200)
        self.assertGreater(left, 50)

    def check_stays(self, world, last, corners):
        found = stays(world)
        self.assertEqual([row[:2] for row in found], corners)
        self.assertTrue(is_plain(found))
        for (_, _, point), (line, number) in zip(found, sorted(flows.corners(last))):
            self.assertIn(point, flows.bars(last, line, number))

    def test_every_clear_shortcut_is_a_segment_in_the_end(self):
        longer = 0
        for seed in range(60):
            world = flows.bent_map(seed, (6, 9)[seed % 2], 150)
            last = stage(world, stages(world))
            for line in last[1]:
                for j in range(len(line[3]) + 2):
                    for i in range(j):
                        self.assertIs(is_clear(last, line[0], i, j), j == i + 1)
                        longer += j > i + 1
        self.assertGreater(longer, 100)

    def test_one_corner_after_the_other_on_long_lines(self):
        for seed in range(20):
            world = flows.bent_map(seed, 7, 250, 2)
            self.assertEqual(fade(world), flows.stages(world)[0])
        zigzag = one_line(*[(k, k * k % 5) for k in range(14)])
        self.assertEqual(fade(zigzag), flows.stages(zigzag)[0])
        self.assertEqual(len(fade(zigzag)), 12)

    def test_the_greatest_map(self):
        world = greatest_map(900000)
        drops = fade(world)
        self.assertEqual(len({row[:2] for row in drops}), 60)
        self.assertEqual(fade(greatest_map()), tuple((a, b, c // 900000 ** 2) for a, b, c in drops))


class StaysTest(unittest.TestCase):
    def test_by_line_name_then_along_the_line(self):
        nodes, lines, _ = hats("z", "a", "m")
        lines = (
            ("z", "aa", "ba", ((0, 9), (10, 9))), lines[1],
            ("m", "ac", "bc", ((40, 9), (45, 8), (50, 9))),
        )
        marks = tuple(
            ("m" + "abcdef"[k], x, 1, 0, 0) for k, x in enumerate((1, 9, 25, 41, 49))
        )
        found = stays((nodes, lines, marks))
        self.assertEqual(found, (
            ("a", 0, (25, 1)), ("m", 0, (41, 1)), ("m", 2, (49, 1)), ("z", 0, (1, 1)), ("z", 1, (9, 1)),
        ))

    def test_a_bar_may_be_a_node_or_a_corner(self):
        nodes = (("a", 0, 0), ("b", 20, 0), ("c", 10, 5))
        world = (nodes, (("l", "a", "b", ((10, 20),)),), ())
        self.assertEqual(stays(world), (("l", 0, (10, 5)),))
        self.assertTrue(is_plain(stays(world)))


class WrongValuesTest(unittest.TestCase):
    def test_no_legal_map(self):
        for call in (fade, stages, stays):
            for world in NO_MAPS + ILLEGAL:
                bad_value(self, 0, call, world)


if __name__ == "__main__":
    unittest.main()
