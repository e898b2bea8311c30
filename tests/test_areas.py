"""[13], [20], [23], [24] Areas, their sizes, and Euler's formula."""

import unittest

from cornerfade.areas import area_of, areas, pieces, twice
from cornerfade.maps import is_legal
from tests import oracle
from tests.samples import (
    EMPTY, ILLEGAL, LEGAL, LINE, NESTED, NESTED_BESIDE, NESTED_BETWEEN, NESTED_INNER,
    NESTED_OUTSIDE, NO_MAPS, STAR, TENT, bad_value, greatest_map, is_plain, listed, mixed,
    moved, sides,
)

FAR = 1000000000
NO_PLACES = (
    None, True, 0, "", "ab", (), [], (1,), (1, 2, 3), (True, 0), (0, False), (None, 0), ("a", "b"),
    ((1, 2), 3), (2 * FAR + 1, 0), (0, -2 * FAR - 1), (10 ** 30, 10 ** 30), [[0, 0]], "0 0",
)
NO_AREAS = (
    None, True, False, 0, 1, "", "ab", "left", ("ab",), ("ab", "left"), (("ab", "left"),),
    (("ab",),), (("ab", "left", "left"),), (("ab", True),), ((),), (((),),), [[[[["ab"]]]]],
    (("no", "left"), ("no", "right")), (("ab", "up"), ("ab", "down")),
    (("ab", "right"), ("ab", "left")), (("ab", "left"), ("ab", "right"), ("ab", "left")),
    (("ab", "left"), ("ab", ("right",))), (("ab", "left"), None), 10 ** 30,
)


class AreasTest(unittest.TestCase):
    def test_without_lines(self):
        marks = (("m", 5, 5, 1, 1),)
        for world in (EMPTY, ((("a", 0, 0), ("b", 1, 1)), (), ()), ((), (), marks)):
            self.assertEqual(areas(world), ((),))
            self.assertEqual(area_of(world, (0, 0)), ())
            self.assertEqual(area_of(world, (2 * FAR, -2 * FAR)), ())
            self.assertIsNone(twice(world, ()))
            self.assertIsNone(twice(world, []))
            for wrong in NO_AREAS:
                if wrong != ():
                    bad_value(self, 1, twice, world, wrong)

    def test_free_line(self):
        both = (("ab", "left"), ("ab", "right"))
        self.assertEqual(areas(LINE), (both,))
        self.assertEqual(area_of(LINE, (5, 1)), both)
        self.assertIsNone(twice(LINE, both))

    def test_nested(self):
        found = areas(NESTED)
        self.assertEqual(
            found, tuple(sorted((NESTED_INNER, NESTED_BETWEEN, NESTED_BESIDE, NESTED_OUTSIDE)))
        )
        for place, area in (
            ((12, 12), NESTED_INNER), ((20, 15), NESTED_INNER), ((16, 16), NESTED_INNER),
            ((5, 5), NESTED_BETWEEN), ((45, 45), NESTED_BETWEEN), ((9, 10), NESTED_BETWEEN),
            ((41, 10), NESTED_BETWEEN), ((41, 11), NESTED_BETWEEN),
            ((200, 1), NESTED_BESIDE), ((200, 10), NESTED_BESIDE),
            ((51, 50), NESTED_OUTSIDE), ((-1, 0), NESTED_OUTSIDE), ((150, 10), NESTED_OUTSIDE),
            ((101, 0), NESTED_OUTSIDE), ((500, 500), NESTED_OUTSIDE),
            ((2 * FAR, 2 * FAR), NESTED_OUTSIDE), ((-2 * FAR, 10), NESTED_OUTSIDE),
            ((2 * FAR, 0), NESTED_OUTSIDE), ((0, -2 * FAR), NESTED_OUTSIDE),
        ):
            self.assertEqual(area_of(NESTED, place), area, place)
            self.assertEqual(area_of(NESTED, list(place)), area, place)
        self.assertEqual(twice(NESTED, NESTED_INNER), 900)
        self.assertEqual(twice(NESTED, NESTED_BETWEEN), 10000 - 900)
        self.assertEqual(twice(NESTED, NESTED_BESIDE), 400 + 20)
        self.assertIsNone(twice(NESTED, NESTED_OUTSIDE))

    def test_places_on_lines(self):
        for place in (
            (0, 0), (100, 0), (50, 0), (1, 0), (50, 50), (99, 1), (0, 1), (10, 40), (25, 25),
            (15, 15), (16, 17), (18, 15), (17, 16), (199, 10), (210, 10),
        ):
            self.assertIsNone(area_of(NESTED, place), place)
        for place in ((0, 0), (2, 1), (5, 6), (8, 1), (10, 0)):
            self.assertIsNone(area_of(TENT, place), place)
        self.assertIsNotNone(area_of(NESTED, (12, 12)))

    def test_tent(self):
        both = sides("rim.left", "rim.right")
        self.assertEqual(areas(TENT), (both,))
        for place in ((5, 2), (5, 5), (5, 7), (0, 1), (1, 0), (5, 0)):
            self.assertEqual(area_of(TENT, place), both)

    def test_star_has_one_area(self):
        self.assertEqual(len(areas(STAR)), 1)
        self.assertEqual(len(areas(STAR)[0]), 16)

    def test_rings_that_share_a_line(self):
        world = (
            (("a", 0, 0), ("b", 10, 0), ("c", 10, 10), ("d", 0, 10)),
            (
                ("ab", "a", "b", ()), ("bc", "b", "c", ()), ("cd", "d", "c", ()),
                ("da", "d", "a", ()), ("ac", "a", "c", ((3, 4),)),
            ),
            (),
        )
        low, high = sides("ab.left", "bc.left", "ac.right"), sides("ac.left", "cd.right", "da.left")
        self.assertEqual(areas(world), (low, sides("ab.right", "bc.right", "cd.left", "da.right"), high))
        self.assertEqual(twice(world, low), 110)
        self.assertEqual(twice(world, high), 90)
        self.assertEqual(area_of(world, (3, 3)), low)
        self.assertEqual(area_of(world, (3, 5)), high)

    def test_two_rings_at_one_node(self):
        """A ring in which a second one hangs at a node: still one piece."""
        world = (
            (("a", 0, 0), ("b", 90, 0), ("c", 0, 90), ("d", 9, 3), ("e", 3, 9)),
            (
                ("ab", "a", "b", ()), ("bc", "b", "c", ()), ("ca", "c", "a", ()),
                ("ad", "a", "d", ()), ("de", "d", "e", ()), ("ea", "e", "a", ()),
            ),
            (),
        )
        inner = sides("ad.left", "de.left", "ea.left")
        outer = sides("ab.left", "bc.left", "ca.left", "ad.right", "de.right", "ea.right")
        self.assertEqual(pieces(world), 1)
        self.assertEqual(len(areas(world)), 3)
        self.assertEqual(twice(world, inner), 72)
        self.assertEqual(twice(world, outer), 8100 - 72)
        self.assertEqual(area_of(world, (5, 5)), inner)
        self.assertEqual(area_of(world, (1, 9)), outer)

    def test_near_the_bounds(self):
        ring = (
            (("a", -FAR, -FAR), ("b", FAR, -FAR), ("c", FAR, FAR), ("d", -FAR, FAR)),
            (
                ("ab", "a", "b", ()), ("bc", "b", "c", ()), ("cd", "c", "d", ()), ("da", "d", "a", ()),
            ),
            (("m", 0, 0, 1, 1),),
        )
        inner = sides("ab.left", "bc.left", "cd.left", "da.left")
        outer = sides("ab.right", "bc.right", "cd.right", "da.right")
        self.assertEqual(areas(ring), (inner, outer))
        self.assertEqual(twice(ring, inner), 8 * FAR * FAR)
        for place in ((0, 0), (FAR - 1, FAR - 1), (1 - FAR, FAR - 1)):
            self.assertEqual(area_of(ring, place), inner)
        for place in ((FAR + 1, 0), (0, -FAR - 1), (FAR + 1, FAR), (2 * FAR, 2 * FAR), (-2 * FAR, FAR)):
            self.assertEqual(area_of(ring, place), outer)
        for place in ((FAR, 0), (FAR, FAR), (0, -FAR)):
            self.assertIsNone(area_of(ring, place))

    def test_bad_values(self):
        for value in NO_MAPS + ILLEGAL:
            bad_value(self, 0, areas, value)
            bad_value(self, 0, pieces, value)
            bad_value(self, 0, area_of, value, (0, 0))
            bad_value(self, 0, area_of, value, None)
            bad_value(self, 0, twice, value, ())
            bad_value(self, 0, twice, value, None)
        for wrong in NO_PLACES:
            for world in (EMPTY, TENT):
                bad_value(self, 1, area_of, world, wrong)
        for wrong in NO_AREAS:
            bad_value(self, 1, twice, LINE, wrong)
        bad_value(self, 1, twice, LINE, ())

    def test_areas_of_other_maps(self):
        bad_value(self, 1, twice, NESTED, areas(LINE)[0])
        bad_value(self, 1, twice, NESTED, NESTED_INNER[::-1])
        bad_value(self, 1, twice, NESTED, NESTED_INNER[:-1])
        bad_value(self, 1, twice, NESTED, areas(NESTED))

    def test_areas_handed_in_as_lists(self):
        for world in LEGAL:
            for area in areas(world):
                expected = twice(world, area)
                self.assertEqual(twice(world, listed(area)), expected)
                self.assertEqual(twice(world, mixed(area)), expected)
                self.assertEqual(twice(listed(world), mixed(area, True)), expected)

    def test_arguments_by_name(self):
        self.assertEqual(areas(world=LINE), areas(LINE))
        self.assertEqual(area_of(world=LINE, place=(0, 5)), area_of(LINE, (0, 5)))
        self.assertEqual(twice(area=NESTED_INNER, world=NESTED), 900)
        self.assertEqual(pieces(world=NESTED), 6)


class PiecesTest(unittest.TestCase):
    def test_pieces(self):
        self.assertEqual(pieces(EMPTY), 0)
        self.assertEqual(pieces(LINE), 1)
        self.assertEqual(pieces(TENT), 1)
        self.assertEqual(pieces(NESTED), 6)
        self.assertEqual(pieces(STAR), 2)
        self.assertEqual(pieces(((("a", 0, 0), ("b", 1, 1)), (), ())), 2)

    def test_euler(self):
        for world in LEGAL + (greatest_map(),):
            count = len(world[1]) - len(world[0]) + pieces(world) + 1
            self.assertEqual(len(areas(world)), count)


class RandomMapsTest(unittest.TestCase):
    def same_as_oracle(self, world, places):
        cells = oracle.Cells(world)
        borders = cells.borders()
        expected = cells.areas()
        found = areas(world)
        self.assertTrue(is_plain(found))
        self.assertEqual(found, tuple(sorted(expected)))
        self.assertEqual({area: twice(world, area) for area in found}, expected)
        self.assertEqual(pieces(world), oracle.pieces(world))
        self.assertEqual(len(found), len(world[1]) - len(world[0]) + pieces(world) + 1)
        segments = oracle.segments(world)
        for place in places:
            told = area_of(world, place)
            if any(oracle.share_of(place, row[2], row[3]) is not None for row in segments):
                self.assertIsNone(told, place)
            else:
                self.assertEqual(told, cells.at(place, borders), (world, place))

    def test_random_maps(self):
        rings = 0
        for seed in range(120):
            width = 5 + seed % 5
            world = oracle.random_legal_map(seed, width, 40 + seed % 50)
            self.assertIs(is_legal(world), True)
            rings += len(areas(world)) > 2
            places = [(x, y) for x in range(-1, width + 1) for y in range(-1, width + 1)]
            self.same_as_oracle(world, places)
        self.assertGreater(rings, 20)

    def test_random_maps_between_the_grid(self):
        for seed in range(20):
            world = moved(oracle.random_legal_map(seed, 6, 90), 3, 0, 0)
            places = [(x, y) for x in range(-1, 18) for y in range(-1, 18)]
            self.same_as_oracle(world, places)

    def test_random_maps_far_away(self):
        for seed in range(40):
            near = oracle.random_legal_map(seed, 6, 70)
            factor, shift = 399999999, -FAR + 3
            far = moved(near, factor, shift, shift)
            self.assertEqual(areas(far), areas(near))
            for area in areas(near):
                size = twice(near, area)
                expected = None if size is None else size * factor * factor
                self.assertEqual(twice(far, area), expected)
            for x in range(6):
                for y in range(6):
                    place = (x * factor + shift, y * factor + shift)
                    self.assertEqual(area_of(far, place), area_of(near, (x, y)))

    def test_nested_samples(self):
        places = [(x, y) for x in range(0, 45, 2) for y in range(0, 45, 3)]
        for world in (NESTED, STAR, TENT, LINE):
            self.same_as_oracle(world, places)


if __name__ == "__main__":
    unittest.main()
