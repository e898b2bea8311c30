"""[15] Arguments and answers, and the greatest maps of [17]."""

import copy
import time
import unittest

from cornerfade.areas import alike, area_of, areas, pieces, turn, twice
from cornerfade.maps import fault, is_legal, is_map
from tests.samples import (
    EMPTY, ILLEGAL, LEGAL, NO_MAPS, TENT, bad_value, greatest_map, is_plain, listed, mixed, moved,
)

GREATEST = greatest_map(900000)


def answers(world, place, form):
    """Everything that there is to tell of a legal map, with arguments made by form."""
    value = form(world)
    found = areas(value)
    return (
        is_map(value), is_legal(value), fault(value), found, pieces(value),
        area_of(value, form(place)), alike(value, form(world)),
        tuple(turn(value, node[0]) for node in world[0]),
        tuple(twice(value, form(area)) for area in found),
    )


class ArgumentsTest(unittest.TestCase):
    def test_lists_and_tuples(self):
        for world in LEGAL + (GREATEST,):
            for place in ((5, 5), (0, 0), (-2000000000, 2000000000)):
                expected = answers(world, place, lambda value: value)
                self.assertTrue(is_plain(expected))
                for form in (listed, mixed, lambda value: mixed(value, True)):
                    self.assertEqual(answers(world, place, form), expected)
                    self.assertTrue(is_plain(answers(world, place, form)))

    def test_faults_of_lists(self):
        for world in ILLEGAL:
            self.assertEqual(fault(listed(world)), fault(world))
            self.assertTrue(is_plain(fault(listed(world))))

    def test_nothing_that_is_handed_in_is_changed(self):
        for world in LEGAL + ILLEGAL:
            value, place = listed(world), [5, 5]
            kept = copy.deepcopy(value)
            is_map(value), is_legal(value), fault(value)
            if is_legal(value):
                found = [listed(area) for area in areas(value)]
                area_of(value, place), pieces(value), alike(value, value)
                for area in found:
                    before = copy.deepcopy(area)
                    twice(value, area)
                    self.assertEqual(area, before)
                for node in world[0]:
                    turn(value, node[0])
            self.assertEqual(value, kept)
            self.assertEqual(place, [5, 5])
        for value in NO_MAPS:
            kept = copy.deepcopy(value)
            is_map(value), is_legal(value)
            self.assertEqual(value, kept)

    def test_later_changes_have_no_effect(self):
        value = listed(TENT)
        found = areas(value)
        value[1][0][0] = "other"
        self.assertEqual(found, areas(TENT))
        self.assertNotEqual(areas(value), found)

    def test_true_and_false_are_no_integers(self):
        self.assertIs(is_map(((("a", 1, 0),), (), ())), True)
        self.assertIs(is_map(((("a", True, 0),), (), ())), False)
        self.assertIs(is_map(((("a", 1, False),), (), ())), False)
        bad_value(self, 1, area_of, EMPTY, (True, 0))
        bad_value(self, 1, area_of, EMPTY, [0, False])
        self.assertEqual(area_of(EMPTY, (1, 0)), ())

    def test_the_map_is_checked_first(self):
        wrong = ((("a", 0, 0),), (), (("m", 0, 0, 1, 1),))
        for call in (area_of, turn, twice, alike):
            bad_value(self, 0, call, wrong, None)
            bad_value(self, 0, call, None, wrong)
            bad_value(self, 1, call, EMPTY, None)

    def test_deep_and_long_values(self):
        deep = []
        for _ in range(19):
            deep = [deep]
        for value in (deep, [deep] * 3, ["abc"] * 4999, "a" * 20000, -(10 ** 30), [[]] * 2500):
            self.assertIs(is_map(value), False)
            self.assertIs(is_legal(value), False)
            for call in (fault, areas, pieces):
                bad_value(self, 0, call, value)
            for call in (area_of, turn, twice, alike):
                bad_value(self, 0, call, value, value)
                bad_value(self, 1, call, TENT, value)


class GreatestMapsTest(unittest.TestCase):
    def test_it_is_a_greatest_map(self):
        nodes, lines, marks = GREATEST
        self.assertEqual((len(nodes), len(lines), len(marks)), (16, 16, 10))
        self.assertEqual(sum(len(line[3]) for line in lines), 60)
        self.assertGreater(max(node[1] for node in nodes), 800000000)
        self.assertIs(is_legal(GREATEST), True)

    def test_answers(self):
        self.assertEqual(pieces(GREATEST), 5)
        found = areas(GREATEST)
        self.assertEqual(len(found), 6)
        sizes = [twice(GREATEST, area) for area in found]
        self.assertEqual(sizes.count(None), 1)
        near = [twice(greatest_map(), area) for area in found]
        self.assertEqual([size and size * 900000 ** 2 for size in near], sizes)
        inner = area_of(GREATEST, (0, 0))
        self.assertEqual({side[0] for side in inner}, {"exx", "eyy", "ezz"})
        self.assertEqual(area_of(GREATEST, (10 ** 9, 0)), found[sizes.index(None)])
        self.assertIs(alike(GREATEST, moved(GREATEST, 1, 1, 0)), False)

    def test_quickly(self):
        place = (12345, 678)
        for world in (GREATEST, greatest_map()):
            area = areas(world)[0]
            for call in (
                lambda: is_map(world), lambda: is_legal(world), lambda: fault(world),
                lambda: areas(world), lambda: area_of(world, place), lambda: turn(world, "az"),
                lambda: alike(world, world), lambda: twice(world, area), lambda: pieces(world),
            ):
                start = time.perf_counter()
                call()
                self.assertLess(time.perf_counter() - start, 2)


if __name__ == "__main__":
    unittest.main()
