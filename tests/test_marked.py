"""[46], [15]: further marks on the map of a zoom."""

import copy
import unittest

from cornerfade.errors import NotLegal
from cornerfade.fades import fade, scales, stage, stages
from cornerfade.labels import labels
from cornerfade.maps import is_legal
from cornerfade.zooms import Zoom
from tests.samples import (
    EMPTY, LINE, NESTED, STEPS, TENT, bad_value, greatest_map, is_plain, listed, one_line, state,
    with_marks,
)

FAR = 1000000000
LARGEST = 1000000
NO_NAMES = (
    None, True, False, 0, 1, 10 ** 30, "", "A", "Mark", "mark1", "a b", " a", "a\n", "\n", "a_b", "-",
    "abcdefghi", "a" * 20000, [], (), ["a"], ("a",), [["a"]],
)
NO_PLACES = (
    None, True, 0, "", "ab", "12", [], (), (1,), [1, 2, 3], (True, 1), [1, False], (None, 1), ("1", "2"),
    (FAR + 1, 0), (0, FAR + 1), (-FAR - 1, 0), (0, -FAR - 1), (10 ** 30, -(10 ** 30)), ((1, 2),), ([1], [2]),
    [0] * 5000,
)
NO_SIZES = (
    None, True, 0, "", "ab", "12", [], (), (1,), [1, 2, 3], (True, 1), (1, True), [False, 0], [0, False],
    (None, 1), (1, None), ("1", "2"), (-1, 0), (0, -1), (LARGEST + 1, 0), (0, LARGEST + 1),
    (10 ** 30, 1), (1, -(10 ** 30)), ((1, 2),), ([1], [2]), [0] * 5000,
)


def with_more(world, *marks):
    """The map with these marks behind its others."""
    return world[0], world[1], world[2] + marks


class MarkedTest(unittest.TestCase):
    def check(self, zoom, world, number):
        """Asserts that a zoom shows this stage of this map, and what is told beside it."""
        steps = (0,) + scales(world)
        self.assertEqual(
            state(zoom), (number, stage(world, number), steps[number], world, stages(world) + 1),
        )
        self.assertTrue(is_plain(state(zoom)))

    def test_behind_the_others(self):
        zoom = Zoom(TENT)
        self.assertIsNone(zoom.marked("z", (5, 3), (4, 0)))
        self.check(zoom, with_more(TENT, ("z", 5, 3, 4, 0)), 0)
        self.assertIsNone(zoom.marked("a", (-7, -8), (0, LARGEST)))
        self.check(zoom, with_more(TENT, ("z", 5, 3, 4, 0), ("a", -7, -8, 0, LARGEST)), 0)
        self.assertEqual(labels(zoom.shown()), labels(zoom.whole()))

    def test_names_of_nodes_and_lines_are_free(self):
        zoom = Zoom(TENT)
        zoom.marked("a", (50, 50), (0, 0))
        zoom.marked("rim", (60, 50), (0, 0))
        self.assertEqual([mark[0] for mark in zoom.whole()[2]], ["hut", "a", "rim"])

    def test_up_to_ten(self):
        zoom = Zoom(EMPTY)
        for k in range(10):
            zoom.marked("abcdefghij"[k], (FAR - k, -FAR), (k, LARGEST))
        self.assertEqual(len(zoom.whole()[2]), 10)
        self.check(zoom, zoom.whole(), 0)
        self.not_legal(zoom, "k", (0, 0), (1, 1))

    def test_the_stage_shown_stays_where_it_can(self):
        zoom = Zoom(STEPS)
        for number in range(5):
            zoom.to(number)
            zoom.marked("abcde"[number], (100 + number, 100), (1, 1))
            self.assertEqual((zoom.here(), len(zoom)), (number, 5))
            self.check(zoom, with_more(STEPS, *zoom.whole()[2]), number)

    def test_a_mark_that_bars_a_corner(self):
        # Below the second corner; the drops of the corners 2 and 1 are free still.
        world = with_more(STEPS, ("m", 3, 2, 1, 1))
        self.assertLess(stages(world), 4)
        for number in range(5):
            zoom = Zoom(STEPS)
            zoom.to(number)
            zoom.marked("m", (3, 2), (1, 1))
            self.check(zoom, world, min(number, stages(world)))

    def test_one_mark_after_the_other(self):
        hats = one_line((0, 0), (5, 5), (10, 0), (15, 5), (20, 0), (25, 5), (30, 0))
        world = hats
        zoom = Zoom(hats)
        zoom.to(5)
        heres = []
        for name, place in (("a", (5, 2)), ("b", (15, 2)), ("c", (25, 2)), ("d", (10, 2)), ("e", (20, 2))):
            zoom.marked(name, place, (1, 1))
            world = with_more(world, (name, *place, 1, 1))
            heres.append(zoom.here())
            self.assertEqual(zoom.here(), min([5] + heres + [stages(world)]))
            self.check(zoom, world, zoom.here())
        self.assertEqual((heres[-1], len(zoom), zoom.scale()), (0, 1, 0))
        self.assertEqual(zoom.shown(), world)

    def test_a_mark_that_changes_the_fade(self):
        # The mark bars the corner that was dropped first; then another one is.
        world = with_marks(one_line((0, 0), (5, 5), (10, 0), (20, 9), (30, 0)))
        self.assertEqual(scales(world), (50, 90, 270))
        zoom = Zoom(world)
        zoom.down()
        self.assertEqual(zoom.scale(), 50)
        zoom.marked("m", (5, 2), (1, 1))
        self.check(zoom, with_more(world, ("m", 5, 2, 1, 1)), 1)
        self.assertEqual(zoom.scale(), 95)

    def test_on_a_segment_of_the_stage_shown(self):
        # The place is free at stage 0, which counts; so the corner above it cannot be dropped.
        world = one_line((0, 0), (5, 6), (10, 0))
        zoom = Zoom(world)
        zoom.down()
        self.assertEqual(zoom.shown(), LINE[:1] + ((("l", "a", "b", ()),),) + ((),))
        zoom.marked("m", (5, 0), (1, 1))
        self.check(zoom, with_more(world, ("m", 5, 0, 1, 1)), 0)
        self.assertEqual(len(zoom), 1)

    def not_legal(self, zoom, *args):
        """Asserts that the call raises NotLegal, and changes nothing."""
        kept = state(zoom)
        with self.assertRaises(NotLegal) as caught:
            zoom.marked(*args)
        self.assertIs(type(caught.exception), NotLegal)
        self.assertEqual(state(zoom), kept)

    def test_not_legal(self):
        places = {
            "a node": (0, 0), "another node": (10, 0), "a mark": (5, 2), "a corner": (2, 1),
            "another corner": (5, 6), "the last corner": (8, 1), "a segment": (9, 0), "a long one": (3, 2),
        }
        world = with_marks(one_line((0, 0), (2, 1), (4, 3), (5, 6), (8, 1), (8, 0), (10, 0)), (5, 2))
        self.assertIs(is_legal(world), True)
        for number in range(stages(world) + 1):
            zoom = Zoom(world)
            zoom.to(number)
            for place in places.values():
                for size in ((0, 0), (3, 4), [0, LARGEST]):
                    self.not_legal(zoom, "new", place, size)
                    self.not_legal(zoom, "new", list(place), size)
            self.check(zoom, world, number)

    def test_not_legal_where_the_fade_has_gone(self):
        world = one_line((0, 0), (5, 6), (10, 0))
        zoom = Zoom(world)
        zoom.down()
        self.assertEqual(zoom.shown()[1][0][3], ())
        self.not_legal(zoom, "m", (5, 6), (1, 1))
        far = Zoom(one_line((-FAR, 0), (0, FAR), (FAR, 0)))
        far.down()
        self.not_legal(far, "m", (0, FAR), (1, 1))
        self.not_legal(far, "m", (-FAR // 2, FAR // 2), (1, 1))
        self.not_legal(far, "m", (FAR, 0), (1, 1))
        far.marked("m", (-FAR // 2 + 1, FAR // 2), (1, 1))
        self.assertEqual((far.here(), len(far)), (0, 1))

    def test_not_legal_at_a_node_without_lines(self):
        zoom = Zoom(NESTED)
        self.not_legal(zoom, "new", (12, 12), (1, 1))
        self.not_legal(zoom, "new", (500, 500), (1, 1))
        self.not_legal(zoom, "new", (50, 50), (1, 1))
        zoom.marked("new", (51, 50), (1, 1))
        self.not_legal(zoom, "newer", (51, 50), (1, 1))

    def test_an_eleventh_mark(self):
        world = greatest_map(900000)
        zoom = Zoom(world)
        zoom.to(60)
        self.not_legal(zoom, "new", (1, 1), (1, 1))
        self.not_legal(zoom, "new", (0, 0), (1, 1))
        self.assertEqual(zoom.here(), 60)


class WrongValuesTest(unittest.TestCase):
    def bad(self, at, zoom, *args):
        """Asserts that the call raises BadValue(at), and changes nothing there or handed in."""
        kept, before = state(zoom), copy.deepcopy(args)
        bad_value(self, at, zoom.marked, *args)
        self.assertEqual(state(zoom), kept)
        self.assertEqual(args, before)

    def setUp(self):
        self.zoom = Zoom(TENT)
        self.zoom.down()

    def test_no_name(self):
        for name in NO_NAMES:
            self.bad(0, self.zoom, name, (50, 50), (1, 1))
            self.bad(0, self.zoom, name, (0, 0), (1, 1))
            for other in (None, "", (FAR + 1, 0), [True, 1]):
                self.bad(0, self.zoom, name, other, other)

    def test_a_name_that_a_mark_has(self):
        for place, size in (((50, 50), (1, 1)), ((5, 2), (1, 1)), (None, None), ((50, 50), None)):
            self.bad(0, self.zoom, "hut", place, size)
        self.zoom.marked("new", (50, 50), (1, 1))
        self.bad(0, self.zoom, "new", (60, 50), (1, 1))

    def test_no_place(self):
        for place in NO_PLACES:
            self.bad(1, self.zoom, "new", place, (1, 1))
            for size in NO_SIZES:
                self.bad(1, self.zoom, "new", place, size)

    def test_no_size(self):
        for size in NO_SIZES:
            self.bad(2, self.zoom, "new", (50, 50), size)
            # Not even where no mark may be.
            self.bad(2, self.zoom, "new", (0, 0), size)

    def test_bounds(self):
        for place in ((FAR, FAR), [-FAR, -FAR], (FAR, -FAR)):
            for size in ((0, 0), [0, LARGEST], (LARGEST, 0), (LARGEST, LARGEST)):
                zoom = Zoom(EMPTY)
                zoom.marked("abcdefgh", place, size)
                self.assertEqual(zoom.whole()[2], (("abcdefgh", *place, *size),))
        self.bad(0, Zoom(EMPTY), "abcdefghi", (0, 0), (0, 0))

    def test_an_eleventh_mark(self):
        # Wrong values are told before the number of marks.
        zoom = Zoom(greatest_map())
        self.bad(0, zoom, "marka", (1, 1), (1, 1))
        self.bad(1, zoom, "new", (1, True), (1, 1))
        self.bad(2, zoom, "new", (1, 1), (1, -1))


class HandedInTest(unittest.TestCase):
    def test_the_map_is_changed_later(self):
        value = listed(NESTED)
        zoom = Zoom(value)
        zoom.down()
        kept = state(zoom)
        value[0][0][1] = 77
        value[0].pop()
        value[1][6][3].clear()
        value[1][0][0] = "other"
        value[2].append(["new", 51, 50, 1, 1])
        value.clear()
        self.assertEqual(state(zoom), kept)
        zoom.up()
        self.assertEqual((zoom.shown(), zoom.whole()), (NESTED, NESTED))
        zoom.marked("new", (51, 50), (1, 1))
        self.assertEqual(zoom.whole(), with_more(NESTED, ("new", 51, 50, 1, 1)))

    def test_the_place_and_the_size_are_changed_later(self):
        zoom = Zoom(TENT)
        place, size = [50, 60], [7, 8]
        zoom.marked("new", place, size)
        self.assertEqual((place, size), ([50, 60], [7, 8]))
        kept = state(zoom)
        self.assertTrue(is_plain(kept))
        place[0], size[1] = 0, None
        place.append(1)
        size.clear()
        self.assertEqual(state(zoom), kept)
        self.assertEqual(zoom.whole()[2][-1], ("new", 50, 60, 7, 8))

    def test_what_a_zoom_showed_stays(self):
        zoom = Zoom(TENT)
        shown, whole = zoom.shown(), zoom.whole()
        zoom.down()
        zoom.marked("new", (5, 1), (1, 1))
        self.assertEqual((shown, whole), (TENT, TENT))

    def test_a_zoom_beside_the_fade(self):
        zoom = Zoom(TENT)
        zoom.marked("new", (2, 9), (1, 1))
        self.assertEqual(fade(zoom.whole()), fade(TENT))


if __name__ == "__main__":
    unittest.main()
