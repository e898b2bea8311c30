"""[12], [18], [19] Legal maps, and what is told of others."""

import unittest

from cornerfade.maps import fault, is_legal, is_map
from tests import oracle
from tests.samples import (
    CROSSING, EMPTY, ILLEGAL, LEGAL, MARK_ON_LINE, NO_MAPS, SAME_PLACE, TWINS,
    bad_value, greatest_map, is_plain, listed, mixed, moved,
)

FAR = 1000000000


def lines_at(*paths):
    """A map of lines with the given places each; lines that end at one place share the node."""
    names = {}
    lines = []
    for number, path in enumerate(paths):
        for end in (path[0], path[-1]):
            names.setdefault(end, "n" + chr(97 + len(names)))
        lines.append(("l" + chr(97 + number), names[path[0]], names[path[-1]], tuple(path[1:-1])))
    return tuple((name, x, y) for (x, y), name in names.items()), tuple(lines), ()


def with_marks(world, *places):
    marks = tuple(("m" + chr(97 + k), x, y, 1, 1) for k, (x, y) in enumerate(places))
    return world[0], world[1], marks


class LegalTest(unittest.TestCase):
    def legal(self, world):
        self.assertIs(is_map(world), True, world)
        for form in (world, listed(world), mixed(world)):
            self.assertIs(is_legal(form), True, world)
            self.assertIsNone(fault(form), world)

    def faulty(self, world, *words):
        """The map is not legal; what is told is true, and begins with one of the words."""
        self.assertIs(is_map(world), True, world)
        for form in (world, listed(world), mixed(world)):
            self.assertIs(is_legal(form), False, world)
            told = fault(form)
            self.assertTrue(is_plain(told), told)
            self.assertIn(told, oracle.faults(world))
            self.assertIn(told[0], words or ("twins", "place", "meet", "on"))

    def test_legal_maps(self):
        for world in LEGAL + (greatest_map(), greatest_map(100000)):
            self.legal(world)
        self.assertIs(is_legal(value=EMPTY), True)
        self.assertIsNone(fault(value=EMPTY))

    def test_no_maps(self):
        for value in NO_MAPS:
            self.assertIs(is_legal(value), False)
            bad_value(self, 0, fault, value)
        many = greatest_map()
        bad_value(self, 0, fault, (many[0], many[1], many[2] + (("extra", 0, -999, 0, 0),)))

    def test_sample_faults(self):
        for world, word in zip(ILLEGAL, ("twins", "place", "meet", "on")):
            self.faulty(world, word)

    def test_twins(self):
        nodes = TWINS[0]
        corners = ((4, 4),), ((4, -4),)
        for start, end in (("a", "b"), ("b", "a")):
            lines = (("one", "a", "b", corners[0]), ("two", start, end, corners[1]))
            self.faulty((nodes, lines, ()), "twins")
            self.faulty((nodes, lines[::-1], ()), "twins")
        self.faulty((nodes, (("one", "a", "b", ()), ("two", "a", "b", ())), ()))
        self.legal(lines_at([(0, 0), (9, 0)], [(0, 0), (9, 1)], [(9, 0), (9, 1)]))

    def test_points_at_one_place(self):
        nodes = (("a", 0, 0), ("b", 9, 0))
        self.faulty((nodes + (("c", 9, 0),), (), ()), "place")
        self.faulty((nodes, (("l", "a", "b", ((0, 0),)),), ()), "place")
        self.faulty((nodes, (("l", "a", "b", ((9, 0),)),), ()), "place")
        self.faulty((nodes, (("l", "a", "b", ((5, 5), (5, 5))),), ()), "place")
        self.faulty((nodes, (("l", "a", "b", ((5, 5), (7, 7), (5, 5))),), ()))
        self.faulty((nodes, (), (("m", 0, 0, 1, 1),)), "place")
        self.faulty(((), (), (("m", 0, 0, 1, 1), ("n", 0, 0, 2, 2))), "place")
        self.faulty((nodes, (("l", "a", "b", ((5, 5),)),), (("m", 5, 5, 1, 1),)))
        self.faulty(lines_at([(0, 0), (5, 5), (9, 0)], [(0, 9), (5, 5), (9, 9)]))

    def test_segments_that_cross(self):
        self.faulty(CROSSING, "meet")
        self.faulty(lines_at([(0, 0), (9, 9), (9, 0), (0, 9)]), "meet")
        self.faulty(lines_at([(0, 5), (9, 5)], [(5, 0), (5, 9)]), "meet")
        self.faulty(lines_at([(0, 0), (3, 1)], [(1, 1), (2, 0)]), "meet")

    def test_segments_that_only_touch(self):
        self.faulty(lines_at([(0, 0), (9, 9)], [(5, 5), (9, 0)]))
        self.faulty(lines_at([(0, 0), (9, 9)], [(0, 9), (4, 4), (9, 0)]))
        self.faulty(lines_at([(0, 0), (9, 0), (9, 9), (5, 0)]))
        self.faulty(lines_at([(0, 0), (9, 0), (9, 9), (5, 0), (5, -9)]))
        self.legal(lines_at([(0, 0), (9, 9)], [(5, 4), (9, 0)]))
        self.legal(lines_at([(0, 0), (9, 9)], [(0, 9), (4, 5)]))

    def test_corners_that_touch_from_each_side(self):
        """The corner at (0, 0) touches a segment through it; a step back it does not."""
        for x, y in ((1, 0), (1, 1), (0, 1), (-1, 1), (-1, 0), (-1, -1), (0, -1), (1, -1), (2, 1)):
            wall = [(-6 * y, 6 * x), (6 * y, -6 * x)]
            ends = [(9 * x - y, 9 * y + x), (9 * x + y, 9 * y - x)]
            for back, word in ((0, "meet"), (1, None)):
                tip = (back * x, back * y)
                for first in (wall, wall[::-1]):
                    for second in ([ends[0], tip, ends[1]], [ends[1], tip, ends[0]]):
                        for paths in ((first, second), (second, first)):
                            world = lines_at(*paths)
                            if word:
                                self.faulty(world, word)
                            else:
                                self.legal(world)

    def test_segments_on_one_straight_line(self):
        self.faulty(lines_at([(0, 0), (5, 0)], [(3, 0), (9, 0)]))
        self.faulty(lines_at([(0, 0), (9, 0)], [(3, 0), (5, 0)]))
        self.faulty(lines_at([(0, 0), (9, 9)], [(3, 3), (5, 5)]))
        self.legal(lines_at([(0, 0), (4, 0)], [(5, 0), (9, 0)]))
        self.legal(lines_at([(0, 0), (0, 4)], [(0, 5), (0, 9)]))
        self.legal(lines_at([(0, 0), (5, 0)], [(5, 0), (9, 0)]))
        self.legal(lines_at([(0, 0), (3, 0), (9, 0)]))
        self.legal(lines_at([(0, 0), (3, 3), (6, 6), (9, 9)]))

    def test_lines_doubled_back(self):
        self.faulty(lines_at([(0, 0), (9, 0), (5, 0)]), "meet", "on")
        self.faulty(lines_at([(0, 0), (9, 0), (-5, 0)]), "meet", "on")
        self.faulty(lines_at([(0, 0), (9, 0), (5, 0), (5, 5)]), "meet", "on")
        self.faulty(lines_at([(0, 0), (9, 9), (3, 3), (0, 9)]), "meet", "on")
        self.faulty(lines_at([(0, 0), (0, 9), (0, 4), (4, 4)]), "meet", "on")

    def test_lines_that_leave_a_node_alike(self):
        self.faulty(lines_at([(0, 0), (5, 0)], [(0, 0), (9, 0)]), "meet", "on")
        self.faulty(lines_at([(0, 0), (3, 3), (5, 0)], [(9, 9), (0, 0)]), "meet", "on")
        self.legal(lines_at([(0, 0), (9, 0)], [(-9, 0), (0, 0)], [(0, 0), (0, 9)]))
        self.legal(lines_at([(0, 0), (9, 9)], [(0, 0), (9, 8)]))

    def test_two_lines_may_meet_at_one_node_only(self):
        self.faulty(lines_at([(0, 0), (9, 0)], [(0, 0), (0, 9), (9, -9)], ), "meet")
        self.faulty(lines_at([(0, 0), (9, 0), (9, 9)], [(0, 0), (9, 5), (20, 5)]), "meet")

    def test_a_line_may_not_come_back_to_its_node(self):
        self.faulty(lines_at([(0, 0), (9, 0), (9, 9), (-9, -9)]), "meet", "on")
        self.faulty(lines_at([(0, 0), (9, 0), (0, 9), (0, -9)]), "meet", "on")

    def test_marks_and_nodes_on_segments(self):
        world = lines_at([(0, 0), (10, 0), (10, 10)])
        for place in ((5, 0), (1, 0), (9, 0), (10, 5), (10, 9)):
            self.faulty(with_marks(world, place), "on")
            self.faulty((world[0] + (("lone", *place),), world[1], ()), "on")
        for place in ((5, 1), (5, -1), (11, 0), (-1, 0), (10, 11), (9, 5), (11, 5)):
            self.legal(with_marks(world, place))
            self.legal((world[0] + (("lone", *place),), world[1], ()))
        self.faulty(MARK_ON_LINE, "on")
        self.faulty(with_marks(lines_at([(0, 0), (3, 9)]), (1, 3)), "on")
        self.legal(with_marks(lines_at([(0, 0), (3, 8)]), (1, 3)))

    def test_a_node_of_a_line_on_another_segment_of_it(self):
        self.faulty(lines_at([(5, 0), (5, 9), (0, 0), (9, 0)]))

    def test_near_the_bounds(self):
        self.faulty(lines_at([(-FAR, -FAR), (FAR, FAR)], [(-FAR, FAR), (FAR, -FAR)]), "meet")
        self.legal(lines_at([(-FAR, -FAR), (FAR, FAR)], [(-FAR, -FAR + 1), (FAR - 1, FAR)]))
        self.legal(lines_at([(-FAR, -FAR), (FAR, FAR - 1)], [(-FAR, -FAR + 1), (FAR, FAR)]))
        self.faulty(lines_at([(-FAR, -FAR), (FAR, FAR - 1)], [(-FAR, -FAR + 1), (FAR, FAR - 2)]), "meet")
        world = lines_at([(-FAR, -FAR), (FAR, FAR - 1)])
        self.legal(with_marks(world, (0, 0), (0, -1), (1, 0), (FAR, FAR), (FAR - 1, FAR - 1)))
        self.faulty(with_marks(lines_at([(-FAR, -FAR), (FAR, FAR)]), (FAR - 1, FAR - 1)), "on")
        self.legal(with_marks(lines_at([(-FAR, -FAR), (FAR, FAR)]), (FAR - 1, FAR - 2)))
        self.legal(lines_at([(0, 0), (FAR, FAR)], [(0, 0), (FAR, FAR - 1)], [(0, 0), (FAR - 1, FAR)]))
        self.faulty(lines_at([(0, 0), (FAR, FAR)], [(0, 0), (FAR - 1, FAR - 1)]), "meet")

    def test_random_maps(self):
        counts = {True: 0, False: 0}
        words = set()
        for seed in range(1500):
            world = oracle.random_map(seed, 4 + seed % 12, 3 + seed % 5)
            legal = not oracle.faults(world)
            counts[legal] += 1
            if legal:
                self.legal(world)
            else:
                self.faulty(world)
                words.add(fault(world)[0])
        self.assertGreater(min(counts.values()), 100)
        self.assertEqual(words, {"twins", "place", "meet", "on"})

    def test_random_maps_far_away(self):
        for seed in range(300):
            world = oracle.random_map(seed, 11, 5)
            far = moved(world, 199999999, -FAR, -FAR + 3)
            self.assertIs(is_map(far), True)
            self.assertIs(is_legal(far), not oracle.faults(world))


if __name__ == "__main__":
    unittest.main()
