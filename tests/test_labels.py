"""[42], [10]: the labels that stand."""

import unittest

from cornerfade.labels import labels, unset
from cornerfade.maps import is_legal
from tests import boxes
from tests.samples import (
    EMPTY, ILLEGAL, LEGAL, LINE, NO_MAPS, TENT, bad_value, greatest_map, is_plain, listed, mixed,
    moved, one_line,
)

FAR = 1000000000
LARGEST = 1000000


def with_labels(world, *marks):
    """The map with these marks alone, each (x, y, wide, high), called ma, mb, .. in turn."""
    rows = tuple(("m" + chr(97 + k), *mark) for k, mark in enumerate(marks))
    return world[0], world[1], rows


def beside(one, other, *mark):
    """A map of one straight line and one mark."""
    return with_labels(one_line(one, other), mark)


def points(*places):
    """A map of nodes without lines."""
    return tuple(("n" + chr(97 + k), x, y) for k, (x, y) in enumerate(places)), (), ()


class LabelTest(unittest.TestCase):
    def standing(self, world, *names):
        """Asserts that just the labels of these marks stand."""
        self.assertIs(is_legal(world), True)
        self.assertEqual(labels(world), names)
        self.assertEqual(tuple(row[0] for row in unset(world)), tuple(
            mark[0] for mark in world[2] if mark[0] not in names
        ))

    def alone(self, stands, world):
        """Asserts that the one label of a map stands, or not."""
        self.standing(world, *(["ma"] if stands else []))


class LineTest(LabelTest):
    def check(self, stands, one, other):
        """Asserts whether the label from (10, 20) to (14, 26) stands beside a line."""
        self.alone(stands, beside(one, other, 10, 20, 4, 6))
        self.alone(stands, beside(other, one, 10, 20, 4, 6))

    def test_inside(self):
        self.check(False, (0, 19), (30, 28))
        self.check(False, (12, 0), (12, 40))
        self.check(False, (0, 23), (40, 23))
        self.check(False, (11, 22), (13, 24))
        self.check(False, (12, 25), (40, 60))
        self.check(False, (12, 40), (11, 21))

    def test_at_a_side(self):
        self.check(False, (10, 21), (10, 25))
        self.check(False, (14, 0), (14, 40))
        self.check(False, (14, 26), (14, 40))
        self.check(False, (11, 26), (40, 26))
        self.check(False, (0, 26), (11, 26))
        self.check(False, (12, 26), (12, 40))
        self.check(False, (14, 23), (20, 24))
        self.check(False, (0, 0), (10, 23))
        self.check(False, (13, 20), (20, 0))

    def test_beside_a_side(self):
        self.check(True, (9, 0), (9, 40))
        self.check(True, (15, 0), (15, 40))
        self.check(True, (0, 19), (40, 19))
        self.check(True, (0, 27), (40, 27))
        self.check(True, (12, 27), (12, 40))
        self.check(True, (15, 23), (20, 23))
        self.check(True, (0, 20), (9, 20))
        self.check(True, (10, 27), (10, 40))
        self.check(True, (11, 27), (13, 27))

    def test_at_a_corner_of_the_box_alone(self):
        self.check(False, (13, 25), (15, 27))
        self.check(False, (13, 27), (15, 25))
        self.check(False, (9, 25), (11, 27))
        self.check(False, (13, 19), (15, 21))
        self.check(False, (14, 26), (20, 30))
        self.check(False, (14, 26), (14, 30))
        self.check(False, (14, 20), (20, 20))
        self.check(False, (10, 26), (0, 26))
        self.check(False, (17, 27), (8, 24))

    def test_by_a_corner_of_the_box(self):
        self.check(True, (13, 28), (16, 25))
        self.check(True, (14, 27), (15, 26))
        self.check(True, (15, 27), (20, 30))
        self.check(True, (9, 26), (10, 27))
        self.check(True, (13, 18), (16, 21))
        self.check(True, (9, 20), (10, 19))
        self.check(True, (0, 25), (17, 28))
        # The same slope as through the corner, a hair beside it.
        self.alone(False, beside((-FAR, FAR), (FAR, -FAR), -9, -9, 9, 9))
        self.alone(True, beside((-FAR, FAR), (FAR, -FAR + 1), -9, -9, 9, 9))

    def test_flat_boxes(self):
        for mark, one, other, stands in (
            ((10, 20, 0, 6), (0, 26), (40, 26), False), ((10, 20, 0, 6), (0, 27), (40, 27), True),
            ((10, 20, 0, 6), (10, 23), (40, 23), False), ((10, 20, 0, 6), (11, 23), (40, 23), True),
            ((10, 20, 0, 6), (10, 26), (10, 40), False), ((10, 20, 0, 6), (10, 27), (10, 40), True),
            ((10, 20, 0, 6), (10, 0), (10, 19), True), ((10, 20, 0, 6), (9, 21), (11, 24), False),
            ((10, 20, 0, 6), (9, 21), (12, 60), True), ((10, 20, 0, 6), (9, 20), (11, 20), None),
            ((10, 20, 4, 0), (14, 0), (14, 40), False), ((10, 20, 4, 0), (15, 0), (15, 40), True),
            ((10, 20, 4, 0), (12, 20), (40, 20), False), ((10, 20, 4, 0), (15, 20), (40, 20), True),
            ((10, 20, 4, 0), (11, 20), (12, 20), False), ((10, 20, 4, 0), (11, 21), (12, 21), True),
            ((10, 20, 4, 0), (11, 19), (12, 22), False), ((10, 20, 4, 0), (13, 23), (19, 19), True),
            ((10, 20, 0, 0), (11, 20), (40, 20), True), ((10, 20, 0, 0), (0, 19), (40, 22), True),
            ((10, 20, 0, 0), (9, 20), (10, 21), True), ((10, 20, 0, 0), (10, 19), (11, 20), True),
        ):
            world = beside(one, other, *mark)
            if stands is None:
                # The mark itself is on the line.
                bad_value(self, 0, labels, world)
            else:
                self.alone(stands, world)

    def test_every_segment_of_a_line_counts(self):
        path = ((0, 0), (0, 40), (40, 40), (40, 0))
        for mark, stands in (
            ((10, 20, 4, 6), True), ((10, 20, 30, 6), False), ((10, 20, 4, 20), False),
            ((-3, 20, 3, 6), False), ((-3, 20, 2, 6), True), ((10, 0, 29, 39), True),
            ((-3, -3, 2, 99), True), ((-3, -3, 99, 2), True), ((-3, -3, 99, 3), False),
        ):
            self.alone(stands, with_labels(one_line(*path), mark))

    def test_the_end_of_a_line_is_of_the_line(self):
        self.assertEqual(unset(beside((5, 5), (9, 9), 0, 0, 5, 5)), (("ma", "line", "l"),))
        self.assertEqual(unset(beside((5, 5), (9, 9), 0, 0, 20, 20)), (("ma", "line", "l"),))


class NodeTest(LabelTest):
    def test_in_the_box_and_on_its_side(self):
        for x, y, stands in (
            (2, 2, False), (3, 5, False), (4, 3, False), (0, 3, False), (2, 0, False), (2, 6, False),
            (4, 6, False), (0, 6, False), (4, 0, False), (5, 3, True), (-1, 3, True), (2, -1, True),
            (2, 7, True), (5, 7, True), (-1, -1, True), (5, 0, True), (0, 7, True),
        ):
            self.alone(stands, with_labels(points((x, y)), (0, 0, 4, 6)))
            self.alone(stands, with_labels(points((99, 99), (x, y)), (0, 0, 4, 6)))

    def test_flat_boxes(self):
        for mark, x, y, stands in (
            ((0, 0, 0, 6), 0, 6, False), ((0, 0, 0, 6), 0, 3, False), ((0, 0, 0, 6), 0, 7, True),
            ((0, 0, 0, 6), 1, 3, True), ((0, 0, 4, 0), 4, 0, False), ((0, 0, 4, 0), 5, 0, True),
            ((0, 0, 4, 0), 2, 1, True), ((0, 0, 0, 0), 1, 0, True), ((0, 0, 0, 0), 0, -1, True),
        ):
            self.alone(stands, with_labels(points((x, y)), mark))


class MarkTest(LabelTest):
    def test_in_the_box_and_on_its_side(self):
        for x, y, stands in (
            (2, 2, False), (4, 3, False), (0, 3, False), (2, 0, False), (2, 6, False), (4, 6, False),
            (0, 6, False), (4, 0, False), (5, 3, True), (-1, 3, True), (2, -1, True), (2, 7, True),
        ):
            later = with_labels(EMPTY, (0, 0, 4, 6), (x, y, 0, 0))
            self.standing(later, *(["ma", "mb"] if stands else ["mb"]))
            earlier = with_labels(EMPTY, (x, y, 0, 0), (0, 0, 4, 6))
            self.standing(earlier, *(["ma", "mb"] if stands else ["ma"]))

    def test_the_own_place_does_not_count(self):
        for size in ((0, 0), (0, 5), (5, 0), (5, 5)):
            self.alone(True, with_labels(EMPTY, (3, 4) + size))

    def test_a_mark_whose_label_does_not_stand_counts(self):
        world = with_labels(points((9, 9)), (5, 5, 4, 4), (0, 0, 5, 5))
        self.standing(world)
        self.assertEqual(unset(world), (("ma", "node", "na"), ("mb", "mark", "ma")))

    def test_a_label_of_no_size_stands_always(self):
        # Whatever label contains its place does not stand for that.
        for size in ((4, 6), (9, 9), (LARGEST, LARGEST)):
            self.standing(with_labels(EMPTY, (0, 0) + size, (4, 6, 0, 0)), "mb")
            self.standing(with_labels(EMPTY, (4, 6, 0, 0), (0, 0) + size), "ma")


class LabelsTest(LabelTest):
    def test_two_that_share_a_side_or_a_place(self):
        # The first one is from (0, 0) to (4, 4).
        for mark, stands in (
            ((4, -3, 4, 5), False), ((4, -3, 2, 3), False), ((4, -3, 2, 2), True), ((5, -3, 4, 9), True),
            ((-3, 4, 3, 1), False), ((-3, 4, 2, 1), True), ((-3, 4, 9, 9), False), ((-3, 5, 9, 9), True),
            ((-3, -3, 3, 3), None), ((-3, -3, 2, 9), True), ((-3, -3, 9, 2), True), ((-3, 2, 3, 0), False),
            ((-3, 2, 2, 0), True), ((2, -3, 0, 3), False), ((2, -3, 0, 2), True), ((-3, 1, 9, 1), False),
            ((1, -3, 1, 20), False), ((-1, 1, 0, 0), True), ((2, 5, 0, 0), True),
        ):
            world = with_labels(EMPTY, (0, 0, 4, 4), mark)
            if stands is None:
                # This box contains the first mark.
                self.assertEqual(unset(world), (("mb", "mark", "ma"),))
            else:
                self.standing(world, *(["ma", "mb"] if stands else ["ma"]))

    def test_across_one_another(self):
        world = with_labels(EMPTY, (0, 5, 20, 1), (5, 0, 1, 20), (9, 0, 0, 9))
        self.standing(world, "ma")
        self.assertEqual(unset(world), (("mb", "label", "ma"), ("mc", "label", "ma")))

    def test_the_earlier_one_stands(self):
        first, second = (0, 5, 20, 1), (5, 0, 1, 20)
        self.standing(with_labels(EMPTY, first, second), "ma")
        self.standing(with_labels(EMPTY, second, first), "ma")
        # By their places in the sequence, not by their names.
        nodes, lines, marks = with_labels(EMPTY, first, second)
        self.standing((nodes, lines, marks[::-1]), "mb")

    def test_one_that_stands_because_an_earlier_one_does_not(self):
        # ma meets a node; mb meets ma, and stands; mc meets mb.
        marks = ((0, 5, 20, 1), (5, 0, 1, 20), (0, 15, 20, 1))
        self.standing(with_labels(points((20, 6)), *marks), "mb")
        self.standing(with_labels(points((21, 6)), *marks), "ma", "mc")
        # Without a node: md meets mc, which meets mb, which meets ma.
        chain = ((0, 0, 4, 1), (4, -1, 4, 1), (8, -2, 4, 1), (12, -3, 4, 1))
        self.standing(with_labels(EMPTY, *chain), "ma", "mc")
        self.standing(with_labels(points((2, 1)), *chain), "mb", "md")

    def test_ten_in_a_row(self):
        chain = [(4 * k, -k, 4, 1) for k in range(10)]
        self.standing(with_labels(EMPTY, *chain), "ma", "mc", "me", "mg", "mi")
        apart = [(4 * k, -2 * k, 4, 1) for k in range(10)]
        self.standing(with_labels(EMPTY, *apart), *["m" + chr(97 + k) for k in range(10)])


class FarTest(LabelTest):
    def test_beyond_the_bounds_of_places(self):
        beyond = (FAR, FAR, LARGEST, LARGEST)
        self.standing(with_labels(EMPTY, beyond), "ma")
        self.standing(with_labels(LINE, beyond, (-FAR, -FAR, LARGEST, LARGEST)), "ma", "mb")
        for wide, stands in ((LARGEST, False), (5, False), (4, True)):
            right, up = (FAR, FAR - 5, LARGEST, LARGEST), (FAR - 5, FAR, wide, LARGEST)
            names = ["ma", "mb"] if stands else ["ma"]
            self.standing(with_labels(EMPTY, right, up), *names)
            self.standing(with_labels(EMPTY, up, right), *names)

    def test_at_the_bounds(self):
        world = with_labels(points((FAR, FAR)), (FAR - LARGEST, FAR - LARGEST, LARGEST, LARGEST))
        self.standing(world)
        short = with_labels(points((FAR, FAR)), (FAR - LARGEST, FAR - LARGEST, LARGEST, LARGEST - 1))
        self.standing(short, "ma")
        line = ((-FAR, FAR), (FAR, FAR - 1))
        self.standing(beside(*line, 0, FAR - 9, 9, 8), "ma")
        self.standing(beside(*line, 0, FAR - 9, 9, 9))

    def test_greatest_labels_across_a_steep_line(self):
        line = ((-1, -FAR), (1, FAR))
        self.standing(beside(*line, -LARGEST, 0, LARGEST - 1, LARGEST), "ma")
        self.standing(beside(*line, -LARGEST, -LARGEST, LARGEST, LARGEST))
        self.standing(beside(*line, -LARGEST, -LARGEST - 1, LARGEST, LARGEST))
        self.standing(beside(*line, 1, -LARGEST, LARGEST, LARGEST), "ma")


class AllTest(LabelTest):
    def test_samples(self):
        self.assertEqual(labels(TENT), ("hut",))
        for world in LEGAL + (greatest_map(), greatest_map(900000)):
            self.assertEqual((labels(world), unset(world)), boxes.setting(world))
            self.assertTrue(is_plain(labels(world)))
        for world in (EMPTY, LINE):
            self.assertEqual((labels(world), unset(world)), ((), ()))

    def test_each_mark_is_told_once(self):
        standing = others = 0
        words = set()
        maps = boxes.labelled_maps(range(300), (5, 8, 12, 20))
        for world in maps + [boxes.crowd(seed, 12 + seed % 20, 20) for seed in range(300, 600)]:
            stand, fall = labels(world), unset(world)
            names = [mark[0] for mark in world[2]]
            self.assertEqual(sorted(stand + tuple(row[0] for row in fall)), sorted(names))
            self.assertEqual([name for name in names if name in stand], list(stand))
            self.assertEqual((stand, fall), boxes.setting(world))
            standing, others = standing + len(stand), others + len(fall)
            words |= {row[1] for row in fall}
        self.assertGreater(min(standing, others), 800)
        self.assertEqual(words, {"line", "node", "mark", "label"})

    def test_moved_and_multiplied(self):
        for world in boxes.labelled_maps(range(40), (8, 12)):
            stand = labels(world)
            far = moved(world, 50000000, -FAR, -FAR)
            marks = tuple(mark[:3] + (0, 0) for mark in far[2])
            self.assertEqual(labels(far[:2] + (marks,)), tuple(mark[0] for mark in world[2]))
            near = moved(world, 1000, 3, 4)
            marks = tuple(mark[:3] + (mark[3] * 1000, mark[4] * 1000) for mark in near[2])
            self.assertEqual(labels(near[:2] + (marks,)), stand)

    def test_lists(self):
        for world in boxes.labelled_maps(range(20), (6, 9)):
            for form in (listed, mixed, lambda value: mixed(value, True)):
                self.assertEqual((labels(form(world)), unset(form(world))), boxes.setting(world))
                self.assertTrue(is_plain(labels(form(world))) and is_plain(unset(form(world))))

    def test_no_legal_map(self):
        for call in (labels, unset):
            for world in NO_MAPS + ILLEGAL:
                bad_value(self, 0, call, world)
                bad_value(self, 0, call, listed(world))


if __name__ == "__main__":
    unittest.main()
