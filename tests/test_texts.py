"""[47], [14]: texts of maps."""

import unittest

from cornerfade.texts import parse, printed
from tests import boxes, flows, oracle
from tests.samples import (
    EMPTY, ILLEGAL, LEGAL, LINE, NESTED, NO_MAPS, TENT, bad_value, greatest_map, is_plain, listed, mixed,
    moved,
)

FAR = 1000000000
BOUNDS = (
    (("a", -FAR, FAR), ("abcdefgh", FAR, -FAR), ("node", 0, -1)),
    (("line", "a", "node", ((-FAR, -FAR), (FAR, FAR), (0, 0), (-10, 10))), ("mark", "node", "abcdefgh", ())),
    (("node", FAR, -FAR, 0, 1000000), ("line", 1, -1, 1000000, 0)),
)
BOUNDS_TEXT = """\
node a -1000000000 1000000000
node abcdefgh 1000000000 -1000000000
node node 0 -1
line line a node -1000000000 -1000000000 1000000000 1000000000 0 0 -10 10
line mark node abcdefgh
mark node 1000000000 -1000000000 0 1000000
mark line 1 -1 1000000 0
"""


def random_maps():
    """Maps of many kinds, legal and not."""
    found = [oracle.random_map(seed, 5 + seed % 30) for seed in range(60)]
    found += [flows.bent_map(seed, 6 + seed % 9, 90) for seed in range(40)]
    found += [moved(world, 9999999, -777, -FAR // 2) for world in found[60:80]]
    return found + [boxes.crowd(seed, 20, 9) for seed in range(20)]


class PrintedTest(unittest.TestCase):
    def test_each_kind_of_line(self):
        self.assertEqual(
            printed(TENT),
            "node a 0 0\nnode b 10 0\nline rim a b 2 1 5 6 8 1\nmark hut 5 2 1 1\n",
        )
        self.assertEqual(printed(LINE), "node a 0 0\nnode b 10 0\nline ab a b\n")

    def test_the_map_without_points(self):
        self.assertEqual(printed(EMPTY), "")
        self.assertEqual(printed([[], [], []]), "")

    def test_marks_alone(self):
        self.assertEqual(printed(((), (), (("m", -5, 0, 7, 0),))), "mark m -5 0 7 0\n")

    def test_bounds_and_numbers_below_0(self):
        self.assertEqual(printed(BOUNDS), BOUNDS_TEXT)

    def test_in_the_sequence_of_the_map(self):
        world = (
            (("z", 1, 2), ("a", 3, 4), ("m", 5, 6)),
            (("y", "z", "a", ()), ("b", "m", "z", ((9, 8), (7, -6)))),
            (("x", 0, 0, 0, 0), ("c", 1, 1, 1, 1)),
        )
        self.assertEqual(printed(world), (
            "node z 1 2\nnode a 3 4\nnode m 5 6\nline y z a\nline b m z 9 8 7 -6\n"
            "mark x 0 0 0 0\nmark c 1 1 1 1\n"
        ))

    def test_maps_that_are_not_legal(self):
        self.assertEqual(
            printed(ILLEGAL[0]), "node a 0 0\nnode b 9 0\nline one a b 4 4\nline two b a 4 -4\n",
        )
        self.assertEqual(printed(ILLEGAL[1]), "node a 0 0\nnode b 9 0\nmark m 9 0 1 1\n")
        for world in ILLEGAL:
            self.assertEqual(parse(printed(world)), world)

    def test_lists(self):
        for world in LEGAL + ILLEGAL + (BOUNDS, greatest_map()):
            for form in (listed, mixed, lambda value: mixed(value, True)):
                value = form(world)
                self.assertEqual(printed(value), printed(world))
                self.assertEqual(value, form(world))
            self.assertIs(type(printed(world)), str)

    def test_by_name(self):
        self.assertEqual(printed(world=TENT), printed(TENT))

    def test_no_map(self):
        for value in NO_MAPS:
            bad_value(self, 0, printed, value)
        nodes, lines, marks = TENT
        for value in (
            (nodes + nodes, lines, marks), (nodes, lines + lines, marks), (nodes, lines, marks * 2),
            (nodes[:1], lines, marks), (((True, 0, 0),), (), ()), ((("a", True, 0),), (), ()),
            ((("a", 0, FAR + 1),), (), ()), ((), (), (("m", 0, 0, -1, 0),)),
            ((), (), (("m", 0, 0, 0, 1000001),)), ((), (), (("m", 0, 0, 0, False),)),
            ((("A", 0, 0),), (), ()), ((("", 0, 0),), (), ()), (marks, lines, nodes),
        ):
            bad_value(self, 0, printed, value)


class BothWaysTest(unittest.TestCase):
    def test_samples(self):
        for world in LEGAL + ILLEGAL + (BOUNDS, greatest_map(), greatest_map(900000)):
            self.assertEqual(parse(printed(world)), world)
            self.assertTrue(is_plain(parse(printed(world))))
            self.assertEqual(parse(printed(listed(world))), world)

    def test_random_maps(self):
        for world in random_maps():
            self.assertEqual(parse(printed(world)), world)

    def test_texts_of_other_maps_differ(self):
        texts = [printed(world) for world in random_maps()]
        for text in texts:
            self.assertEqual(printed(parse(text)), text)
        maps = {str(world) for world in random_maps()}
        self.assertEqual(len(set(texts)), len(maps))

    def test_a_text_with_further_spaces(self):
        text = printed(NESTED).replace(" ", "   ").replace("\n", "  \n \n\n  ")
        self.assertEqual(parse(text), NESTED)
        self.assertEqual(printed(parse(text)), printed(NESTED))


if __name__ == "__main__":
    unittest.main()
