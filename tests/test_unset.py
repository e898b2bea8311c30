"""[43]: what a label that does not stand meets first."""

import unittest

from cornerfade.labels import labels, unset
from cornerfade.maps import is_legal
from tests import boxes
from tests.samples import EMPTY, LEGAL, LINE, greatest_map, is_plain

# The label of each map is from (0, 0) to (9, 9), if nothing else is said.
BOX = ("m", 0, 0, 9, 9)


def lines_at(*names):
    """Lines with these names that end at heights 1, 2, .. on the right side of the box."""
    nodes, lines = [], []
    for k, name in enumerate(names):
        near, far = "a" + chr(97 + k), "z" + chr(97 + k)
        nodes += [(far, 20, k + 1), (near, 9, k + 1)]
        lines.append((name, near, far, ()))
    return tuple(nodes), tuple(lines)


class UnsetTest(unittest.TestCase):
    def told(self, world, *rows):
        """Asserts that unset tells just these triples."""
        self.assertIs(is_legal(world), True)
        self.assertEqual(unset(world), rows)
        self.assertTrue(is_plain(unset(world)))

    def test_nothing_is_met(self):
        self.told(EMPTY)
        self.told(LINE)
        self.told(((), (), (BOX,)))

    def test_the_least_name_of_several_lines(self):
        for names, least in (
            (("c", "a", "b"), "a"), (("b", "c", "a"), "a"), (("aa", "a"), "a"), (("a", "aa"), "a"),
            (("b", "aaaaaaaa"), "aaaaaaaa"), (("z",), "z"), (("ab", "b", "ba"), "ab"),
        ):
            self.told((*lines_at(*names), (BOX,)), ("m", "line", least))

    def test_a_lesser_line_that_is_not_met(self):
        nodes = (("p", 0, -1), ("q", 9, -1), ("r", 5, 9), ("s", 5, 20))
        self.told(
            (nodes, (("a", "p", "q", ()), ("b", "r", "s", ())), (BOX,)), ("m", "line", "b"),
        )

    def test_a_line_that_is_met_by_an_inner_segment(self):
        nodes = (("p", -5, -5), ("q", -5, 20))
        corners = ((20, -5), (20, 5), (9, 5), (20, 7), (20, 20))
        self.told((nodes, (("l", "p", "q", corners),), (BOX,)), ("m", "line", "l"))

    def test_a_node_at_which_a_line_ends_is_of_the_line(self):
        # The least node is of the line x, and no line ends at "b".
        nodes = (("a", 9, 5), ("b", 3, 3), ("c", 30, 5))
        self.told((nodes, (("x", "a", "c", ()),), (BOX,)), ("m", "line", "x"))
        self.told((nodes, (("x", "c", "a", ()),), (BOX,)), ("m", "line", "x"))
        self.told((nodes, (), (BOX,)), ("m", "node", "a"))

    def test_the_least_name_of_several_nodes(self):
        for names, least in (
            (("c", "a", "b"), "a"), (("b", "a", "c"), "a"), (("aa", "a"), "a"),
            (("b", "aaaaaaaa"), "aaaaaaaa"),
        ):
            nodes = tuple((name, 3 + k, 9) for k, name in enumerate(names))
            self.told((nodes, (), (BOX,)), ("m", "node", least))
        # A lesser one beside the box, and lesser ones at which lines end, beside it, too.
        nodes = (("f", 2, 2), ("a", 10, 2), ("e", 4, 4), ("b", 20, 20), ("c", 30, 20))
        self.told((nodes, (("l", "b", "c", ()),), (BOX,)), ("m", "node", "e"))

    def test_the_first_of_several_marks(self):
        z, c, a = ("z", 3, 3, 0, 0), ("c", 9, 9, 0, 0), ("a", 0, 9, 0, 0)
        for marks in ((BOX, z, c, a), (z, BOX, c, a), (z, c, BOX, a), (z, c, a, BOX)):
            self.told(((), (), marks), ("m", "mark", "z"))
        for marks in ((BOX, c, z, a), (c, BOX, a, z)):
            self.told(((), (), marks), ("m", "mark", "c"))
        self.told(((), (), (("far", 99, 99, 0, 0), BOX, a, z)), ("m", "mark", "a"))
        self.told(((), (), (BOX, a)), ("m", "mark", "a"))

    def test_the_first_of_several_earlier_labels_that_stand(self):
        # Three upright strips from below, each into the box without its mark.
        z, c, a = ("z", 7, -5, 1, 6), ("c", 4, -5, 1, 6), ("a", 1, -5, 1, 6)
        self.told(((), (), (z, c, a, BOX)), ("m", "label", "z"))
        self.told(((), (), (a, c, z, BOX)), ("m", "label", "a"))
        self.told(((), (), (z, BOX, c, a)), ("m", "label", "z"))
        # A node keeps the first one from standing, and then the second one.
        self.told(
            ((("n", 7, -4),), (), (z, c, a, BOX)), ("z", "node", "n"), ("m", "label", "c"),
        )
        self.told(
            ((("n", 7, -4), ("o", 4, -4)), (), (z, c, a, BOX)),
            ("z", "node", "n"), ("c", "node", "o"), ("m", "label", "a"),
        )

    def test_later_labels_are_not_told(self):
        later = ("z", 7, -5, 1, 6)
        self.told(((), (), (BOX, later)), ("z", "label", "m"))
        # The box does not stand; so the later one does, and is not what the box meets.
        world = ((("n", 2, 2),), (), (BOX, later))
        self.told(world, ("m", "node", "n"))
        self.assertEqual(labels(world), ("z",))

    def test_several_kinds_in_the_sequence_of_the_words(self):
        nodes, lines = lines_at("zz")
        node, mark, label = ("a", 2, 2), ("b", 4, 4, 0, 0), ("c", 7, -5, 1, 5)
        for with_line in (True, False):
            for with_node in (True, False):
                for with_mark in (True, False):
                    world = (
                        (nodes if with_line else ()) + ((node,) if with_node else ()),
                        lines if with_line else (),
                        (label,) + ((mark,) if with_mark else ()) + (BOX,),
                    )
                    expected = (
                        ("m", "line", "zz") if with_line else ("m", "node", "a") if with_node
                        else ("m", "mark", "b") if with_mark else ("m", "label", "c")
                    )
                    self.told(world, expected)
        self.told(((node,), (), (label, mark, BOX)), ("m", "node", "a"))

    def test_in_the_sequence_of_the_marks(self):
        nodes = (("n", 50, 50),)
        marks = (
            ("z", 49, 49, 3, 3), ("b", 0, 0, 9, 9), ("y", 48, 48, 3, 3), ("a", 5, -3, 1, 3),
            ("x", 47, 47, 3, 3),
        )
        self.told(
            (nodes, (), marks), ("z", "node", "n"), ("y", "node", "n"), ("a", "label", "b"),
            ("x", "node", "n"),
        )

    def test_samples_and_random_maps(self):
        for world in LEGAL + (greatest_map(), greatest_map(900000)):
            self.told(world, *boxes.setting(world)[1])
        words = []
        maps = boxes.labelled_maps(range(1000, 1100), (5, 9, 15), 40, 4)
        for world in maps + [boxes.crowd(seed, 12 + seed % 20, 12) for seed in range(200)]:
            expected = boxes.setting(world)[1]
            self.told(world, *expected)
            words += [row[1] for row in expected]
        for word in ("line", "node", "mark", "label"):
            self.assertGreater(words.count(word), 20, word)


if __name__ == "__main__":
    unittest.main()
