"""[17] What a map is."""

import unittest

from cornerfade.maps import is_legal, is_map
from tests.samples import (
    EMPTY, ILLEGAL, LEGAL, NO_MAPS, TENT, greatest_map, listed, mixed,
)

FAR = 1000000000
NO_INTEGERS = (True, False, None, "", "1", "a", (), [], (1,), [0])
NO_NAMES = (
    "", "abcdefghi", "A", "aB", "a1", "1", "a b", " a", "a ", "a\n", "\n", "_", "a-b", "a" * 20000,
    None, True, 0, 10 ** 30, (), [], ("a",), ["a"], "\u00e9", "\u00df",
)
NO_SEQUENCES = (None, True, False, 0, 5, "", "ab", "abc", "abcd")


def with_node(node):
    return ((("a", 0, 0), node), (), ())


def with_line(line):
    return ((("a", 0, 0), ("b", 9, 0)), (line,), ())


def with_mark(mark):
    return ((), (), (mark,))


def letters(prefix, count):
    return [prefix + chr(97 + k) for k in range(count)]


def many_nodes(count):
    return tuple((name, k, 0) for k, name in enumerate(letters("n", count)))


def many_lines(count, corners=()):
    names = letters("n", 16)
    return tuple(
        (name, names[k % 16], names[(k + 1) % 16], corners) for k, name in enumerate(letters("l", count))
    )


def with_corners(counts):
    """A map of lines with so many corners each."""
    names = letters("l", len(counts))
    lines = tuple(
        (name, "na", "nb", tuple((k, n) for n in range(count)))
        for k, (name, count) in enumerate(zip(names, counts))
    )
    return many_nodes(2), lines, ()


class IsMapTest(unittest.TestCase):
    def yes(self, value):
        for form in (value, listed(value), mixed(value), mixed(value, True)):
            self.assertIs(is_map(form), True, form)

    def no(self, value):
        for form in (value, listed(value), mixed(value), mixed(value, True)):
            self.assertIs(is_map(form), False, form)
            self.assertIs(is_legal(form), False, form)

    def test_maps(self):
        for world in LEGAL + ILLEGAL + (greatest_map(), greatest_map(100000)):
            self.yes(world)
        self.assertIs(is_map(value=EMPTY), True)

    def test_what_is_no_map_at_all(self):
        for value in NO_MAPS:
            self.no(value)

    def test_parts_that_are_no_sequences(self):
        nodes, lines, marks = TENT
        for wrong in NO_SEQUENCES:
            self.no((wrong, lines, marks))
            self.no((nodes, wrong, marks))
            self.no((nodes, lines, wrong))
            self.no(with_node(wrong))
            self.no(with_line(wrong))
            self.no(with_mark(wrong))
            self.no(with_line(("l", "a", "b", wrong)))
            self.no(with_line(("l", "a", "b", (wrong,))))

    def test_counts_of_parts(self):
        nodes, lines, marks = TENT
        for wrong in ((), (nodes,), (nodes, lines), (nodes, lines, marks, ()), (marks, lines, nodes)):
            self.no(wrong)
        self.yes(with_node(("b", 1, 2)))
        for wrong in ((), ("b",), ("b", 1), ("b", 1, 2, 3)):
            self.no(with_node(wrong))
        self.yes(with_line(("l", "a", "b", ())))
        for wrong in ((), ("l",), ("l", "a"), ("l", "a", "b"), ("l", "a", "b", (), ())):
            self.no(with_line(wrong))
        self.yes(with_mark(("m", 1, 2, 3, 4)))
        for wrong in ((), ("m",), ("m", 1, 2), ("m", 1, 2, 3), ("m", 1, 2, 3, 4, 5)):
            self.no(with_mark(wrong))
        for wrong in ((), (1,), (1, 2, 3)):
            self.no(with_line(("l", "a", "b", (wrong,))))

    def test_names(self):
        for name in ("a", "z", "abcdefgh", "zzzzzzzz"):
            self.yes((((name, 0, 0),), (), ()))
            self.yes(with_line((name, "a", "b", ())))
            self.yes(with_mark((name, 0, 0, 0, 0)))
        for name in NO_NAMES:
            self.no(with_node((name, 0, 0)))
            self.no(with_line((name, "a", "b", ())))
            self.no(with_line(("l", name, "b", ())))
            self.no(with_line(("l", "a", name, ())))
            self.no(with_mark((name, 0, 0, 0, 0)))

    def test_ends_of_lines(self):
        for start, end in (("a", "a"), ("b", "b"), ("a", "c"), ("c", "b"), ("c", "d"), ("l", "b")):
            self.no(with_line(("l", start, end, ())))
        self.yes(with_line(("l", "b", "a", ())))
        self.no(((), (("l", "a", "b", ()),), ()))

    def test_bounds_of_places(self):
        for x, y in ((FAR, 0), (-FAR, 0), (0, FAR), (0, -FAR), (FAR, -FAR)):
            self.yes(with_node(("b", x, y)))
            self.yes(with_line(("l", "a", "b", ((x, y),))))
            self.yes(with_mark(("m", x, y, 0, 0)))
        for x, y in ((FAR + 1, 0), (-FAR - 1, 0), (0, FAR + 1), (0, -FAR - 1), (10 ** 30, 0)):
            self.no(with_node(("b", x, y)))
            self.no(with_line(("l", "a", "b", ((x, y),))))
            self.no(with_mark(("m", x, y, 0, 0)))

    def test_bounds_of_labels(self):
        for size in (0, 1, 1000000):
            self.yes(with_mark(("m", 0, 0, size, 5)))
            self.yes(with_mark(("m", 0, 0, 5, size)))
        for size in (-1, 1000001, -(10 ** 30), 10 ** 30):
            self.no(with_mark(("m", 0, 0, size, 5)))
            self.no(with_mark(("m", 0, 0, 5, size)))

    def test_no_integers(self):
        for wrong in NO_INTEGERS:
            self.no(with_node(("b", wrong, 0)))
            self.no(with_node(("b", 0, wrong)))
            self.no(with_line(("l", "a", "b", ((wrong, 0),))))
            self.no(with_line(("l", "a", "b", ((0, wrong),))))
            for at in range(1, 5):
                mark = ["m", 1, 2, 3, 4]
                mark[at] = wrong
                self.no(with_mark(tuple(mark)))

    def test_twice_the_same_name(self):
        self.no((many_nodes(3) + (("na", 5, 5),), (), ()))
        self.no((many_nodes(16), (many_lines(3) + (("la", "na", "ne", ()),)), ()))
        self.no(((), (), (("m", 0, 0, 0, 0), ("n", 1, 1, 0, 0), ("m", 2, 2, 0, 0))))

    def test_kinds_may_share_a_name(self):
        self.yes(((("a", 0, 0), ("b", 9, 0)), (("a", "a", "b", ()),), (("a", 5, 5, 0, 0),)))

    def test_greatest_counts(self):
        self.yes((many_nodes(16), many_lines(16), ()))
        self.no((many_nodes(17), (), ()))
        self.no((many_nodes(16), many_lines(17), ()))
        marks = tuple((name, 0, 0, 0, 0) for name in letters("m", 11))
        self.yes(((), (), marks[:10]))
        self.no(((), (), marks))

    def test_corners(self):
        self.yes(with_corners([12]))
        self.no(with_corners([13]))
        self.yes(with_corners([12] * 5))
        self.no(with_corners([12] * 5 + [1]))
        self.yes(with_corners([4] * 15))
        self.no(with_corners([4] * 15 + [1]))
        self.no(with_corners([12] * 16))

    def test_maps_need_not_be_legal(self):
        for world in ILLEGAL:
            self.assertIs(is_map(world), True)
            self.assertIs(is_legal(world), False)


if __name__ == "__main__":
    unittest.main()
