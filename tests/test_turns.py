"""[21], [22] Turns, and maps that are alike."""

import unittest

from cornerfade.areas import alike, turn
from tests import oracle
from tests.samples import (
    EMPTY, ILLEGAL, LEGAL, LINE, NESTED, NO_MAPS, STAR, TENT, bad_value, is_plain,
    listed, mixed, moved,
)

FAR = 1000000000
NO_NODES = (
    "", "c", "ab", "A", "zzzzzzzzz", "a" * 20000, None, True, False, 0, 1, 10 ** 30, (), [],
    ("a",), ["a"], [["a"]], ("a", 0, 0),
)


def spokes(*ends):
    """Lines a, b, c .. from a node at (0, 0) to these places; every other one runs back."""
    nodes, lines = [("mid", 0, 0)], []
    for k, (x, y) in enumerate(ends):
        name = chr(97 + k)
        nodes.append((name, x, y))
        lines.append((name, *(("mid", name) if k % 2 else (name, "mid")), ()))
    return tuple(nodes), tuple(lines), ()


class TurnTest(unittest.TestCase):
    def test_no_line_and_one(self):
        self.assertEqual(turn(NESTED, "lone"), ())
        self.assertEqual(turn(((("a", 0, 0),), (), ()), "a"), ())
        self.assertEqual(turn(LINE, "a"), ("ab",))
        self.assertEqual(turn(LINE, "b"), ("ab",))

    def test_star(self):
        self.assertEqual(
            turn(STAR, "mid"), ("le", "lne", "ln", "lnw", "lw", "lsw", "ls", "lse")
        )
        self.assertEqual(turn(STAR, "nw"), ("lnw",))
        self.assertEqual(turn(STAR, "alone"), ())

    def test_straight_to_the_sides(self):
        self.assertEqual(turn(spokes((1, 0), (0, 1), (-1, 0), (0, -1)), "mid"), ("a", "b", "c", "d"))
        self.assertEqual(turn(spokes((0, -1), (-1, 0), (0, 1), (1, 0)), "mid"), ("a", "d", "c", "b"))
        self.assertEqual(turn(spokes((0, 1), (1, 0)), "mid"), ("a", "b"))

    def test_opposite_lines(self):
        for x, y in ((1, 0), (-1, 0), (0, 1), (0, -1), (3, 2), (-3, 2)):
            left, right = (-y, x), (y, -x)
            self.assertEqual(turn(spokes((x, y), (-x, -y)), "mid"), ("a", "b"))
            self.assertEqual(turn(spokes((x, y), (-x, -y), left), "mid"), ("a", "c", "b"))
            self.assertEqual(turn(spokes((x, y), (-x, -y), right), "mid"), ("a", "b", "c"))
            self.assertEqual(turn(spokes((x, y), right, left, (-x, -y)), "mid"), ("a", "c", "d", "b"))

    def test_the_first_corner_tells(self):
        world = (
            (("a", 0, 0), ("b", 9, 9), ("c", 9, -9), ("d", -9, 0)),
            (
                ("p", "a", "b", ((0, -5), (9, -5))), ("q", "c", "a", ((8, -9), (-1, -5))),
                ("r", "a", "d", ((0, 5),)),
            ),
            (),
        )
        self.assertEqual(turn(world, "a"), ("p", "r", "q"))

    def test_nearly_alike_near_the_bounds(self):
        world = spokes((FAR, FAR - 1), (FAR, FAR), (FAR - 1, FAR), (-FAR, 1 - FAR), (-FAR, -FAR))
        self.assertEqual(turn(world, "mid"), ("a", "b", "c", "d", "e"))
        far = moved(spokes((2, 1), (1, 2), (-1, -2)), FAR // 2, 0, 0)
        self.assertEqual(turn(far, "mid"), ("a", "b", "c"))
        corner = (
            (("o", -FAR, -FAR), ("p", FAR, FAR), ("q", FAR, FAR - 1), ("r", FAR - 1, FAR)),
            (("x", "o", "p", ()), ("y", "q", "o", ()), ("z", "o", "r", ())),
            (),
        )
        self.assertEqual(turn(corner, "o"), ("x", "z", "y"))

    def test_many_lines(self):
        ends = [(8, 1), (7, 4), (4, 7), (1, 8), (-1, 8), (-4, 7), (-7, 4), (-8, 1)]
        ends += [(-x, -y) for x, y in ends[:7]]
        for shift in range(15):
            world = spokes(*(ends[shift:] + ends[:shift]))
            self.assertEqual(turn(world, "mid"), tuple("abcdefghijklmno"))
            back = spokes(*(ends[shift:] + ends[:shift])[::-1])
            self.assertEqual(turn(back, "mid"), tuple("aonmlkjihgfedcb"))

    def test_random_maps(self):
        for seed in range(80):
            world = oracle.random_legal_map(seed, 7, 80)
            for node in world[0]:
                self.assertEqual(turn(world, node[0]), oracle.turn(world, node[0]), world)

    def test_bad_values(self):
        for value in NO_MAPS + ILLEGAL:
            bad_value(self, 0, turn, value, "a")
            bad_value(self, 0, turn, value, None)
        for wrong in NO_NODES:
            bad_value(self, 1, turn, LINE, wrong)
            bad_value(self, 1, turn, EMPTY, wrong)
        bad_value(self, 1, turn, EMPTY, "a")
        bad_value(self, 1, turn, TENT, "hut")
        bad_value(self, 1, turn, TENT, "rim")

    def test_forms(self):
        self.assertEqual(turn(world=STAR, name="mid"), turn(STAR, "mid"))
        self.assertEqual(turn(listed(STAR), "mid"), turn(STAR, "mid"))
        self.assertTrue(is_plain(turn(mixed(STAR), "mid")))


SQUARE = (
    (("a", 0, 0), ("b", 10, 0), ("c", 10, 10), ("d", 0, 10), ("lone", 5, 2)),
    (
        ("ab", "a", "b", ()), ("bc", "b", "c", ()), ("cd", "c", "d", ()), ("da", "d", "a", ()),
        ("ca", "c", "a", ()),
    ),
    (("m", 5, 7, 1, 1), ("n", 20, 20, 2, 3)),
)


def with_corners(world, line, corners):
    lines = tuple(row[:3] + (corners,) if row[0] == line else row for row in world[1])
    return world[0], lines, world[2]


class AlikeTest(unittest.TestCase):
    def both(self, one, other, expected):
        for first, second in ((one, other), (other, one)):
            self.assertIs(alike(first, second), expected)
            self.assertIs(alike(listed(first), second), expected)
            self.assertIs(alike(first, mixed(second)), expected)

    def test_itself(self):
        for world in LEGAL + (SQUARE,):
            self.both(world, world, True)
        for one in LEGAL:
            for other in LEGAL:
                self.assertIs(alike(one, other), one == other)

    def test_corners_may_differ(self):
        self.both(SQUARE, with_corners(SQUARE, "ca", ((6, 5),)), True)
        self.both(SQUARE, with_corners(SQUARE, "ab", ((1, -5), (9, -3))), True)
        self.both(LINE, with_corners(LINE, "ab", ((5, 5),)), True)

    def test_nodes(self):
        nodes, lines, marks = SQUARE
        self.both(SQUARE, (nodes[:4] + (("lone", 5, 3),), lines, marks), False)
        self.both(SQUARE, (nodes[:4] + (("other", 5, 2),), lines, marks), False)
        self.both(SQUARE, (nodes[:4], lines, marks), False)
        self.both(SQUARE, (nodes[::-1], lines, marks), False)
        self.both(SQUARE, ((("a", -1, 0),) + nodes[1:], lines, marks), False)

    def test_lines(self):
        nodes, lines, marks = SQUARE
        self.both(SQUARE, (nodes, lines[::-1], marks), False)
        self.both(SQUARE, (nodes, lines[:-1], marks), False)
        self.both(SQUARE, (nodes, lines[:-1] + (("ca", "a", "c", ()),), marks), False)
        self.both(SQUARE, (nodes, lines[:-1] + (("x", "c", "a", ()),), marks), False)
        self.both(SQUARE, (nodes, lines[:-1] + (("ca", "b", "d", ()),), marks), False)

    def test_marks(self):
        nodes, lines, marks = SQUARE
        self.both(SQUARE, (nodes, lines, marks[::-1]), False)
        self.both(SQUARE, (nodes, lines, marks[:1]), False)
        self.both(SQUARE, (nodes, lines, (("m", 5, 8, 1, 1), marks[1])), False)
        self.both(SQUARE, (nodes, lines, (("m", 5, 7, 2, 1), marks[1])), False)
        self.both(SQUARE, (nodes, lines, (("m", 5, 7, 1, 2), marks[1])), False)
        self.both(SQUARE, (nodes, lines, (("o", 5, 7, 1, 1), marks[1])), False)

    def test_marks_on_the_other_side(self):
        self.both(SQUARE, with_corners(SQUARE, "ca", ((4, 8),)), False)
        self.both(SQUARE, with_corners(SQUARE, "bc", ((30, 0), (30, 40))), False)

    def test_lone_nodes_on_the_other_side(self):
        self.both(SQUARE, with_corners(SQUARE, "ca", ((6, 1),)), False)
        self.both(SQUARE, with_corners(SQUARE, "ab", ((5, 3),)), False)

    def test_turns(self):
        """The areas and the marks are the same; the lines leave m in another turn."""
        nodes = (("m", 0, 0), ("a", 9, 0), ("b", 0, 9), ("c", -9, 0))
        lines = (("a", "m", "a", ()), ("b", "m", "b", ()), ("c", "m", "c", ()))
        other = lines[:2] + (("c", "m", "c", ((5, 5), (5, 15), (-9, 15))),)
        self.both((nodes, lines, ()), (nodes, other, ()), False)

    def test_areas(self):
        """The turns are the same; a free line stands in the ring, or outside."""
        nodes = (("a", 0, 0), ("b", 10, 0), ("c", 0, 10), ("d", 20, 20), ("e", 21, 20))
        ring = (("ab", "a", "b", ()), ("bc", "b", "c", ()), ("ca", "c", "a", ()))
        out = (nodes, ring + (("de", "d", "e", ()),), ())
        around = (("ab", "a", "b", ()), ("bc", "b", "c", ((50, 50),)), ("ca", "c", "a", ()))
        self.both(out, (nodes, around + (("de", "d", "e", ()),), ()), False)

    def test_bad_values(self):
        for value in NO_MAPS + ILLEGAL:
            bad_value(self, 0, alike, value, EMPTY)
            bad_value(self, 0, alike, value, value)
            bad_value(self, 1, alike, EMPTY, value)
            bad_value(self, 1, alike, SQUARE, value)
        self.assertIs(alike(other=SQUARE, one=SQUARE), True)


if __name__ == "__main__":
    unittest.main()
