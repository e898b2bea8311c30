"""[15] for drops, fades and thinnings, and the greatest maps of [17]."""

import copy
import inspect
import time
import unittest

from cornerfade import drops, fades, thinnings
from cornerfade.areas import alike
from cornerfade.maps import is_legal
from tests import flows
from tests.samples import (
    NESTED, STAR, TENT, bad_value, greatest_map, is_plain, listed, mixed, moved,
)

NEAR = greatest_map(10)
GREATEST = greatest_map(900000)
MOST = 10 ** 19
CHOSEN = ("axx", (0, 1, 2, 4, 5))
# A function, its arguments behind the map, and the map, for one good call of every kind.
CALLS = [
    (call, (world, line) + rest)
    for world, line in ((TENT, "rim"), (NESTED, "free"), (STAR, "lnw"), (NEAR, "axx"), (GREATEST, "dzz"))
    for call, rest in (
        (drops.triangle, (0,)), (drops.size, (0,)), (drops.can_drop, (0,)), (drops.barred_by, (0,)),
        (drops.dropped, (0,)), (thinnings.is_clear, (0, 2)), (thinnings.is_near, (0, 2, 30)),
        (thinnings.shortcuts, (5,)), (thinnings.is_thinning, (5, (0, 2, 4))),
        (thinnings.is_thinning, (MOST, (0, 1, 2))), (thinnings.fewest, (MOST,)), (thinnings.levels, (MOST,)),
        (thinnings.levels_hold, (MOST, None)),
    )
] + [
    (call, (world,) + rest)
    for world in (TENT, NESTED, STAR, NEAR, GREATEST)
    for call, rest in (
        (fades.fade, ()), (fades.stage, (1,)), (fades.stages, ()), (fades.scales, ()),
        (fades.at_scale, (100,)), (fades.stays, ()), (fades.sizes, ()), (thinnings.thinned, ((),)),
        (thinnings.thinned_all, (MOST,)),
    )
] + [
    (drops.frame, (TENT, "rim", 1, 3, 8)), (drops.frame, (NEAR, "dzz", 2, 9999, 10000)),
    (fades.moment, (TENT, 1, 3, 8)), (fades.moment, (NEAR, 59, 9999, 10000)),
    (thinnings.thinned, (TENT, (("rim", (0, 2, 3, 4)),))), (thinnings.thinned, (GREATEST, (CHOSEN,))),
    (drops.barred_by, (TENT, "rim", 1)), (drops.can_drop, (TENT, "rim", 1)),
]


def filled(call, args):
    """The arguments, with levels that hold for a None."""
    if call is thinnings.levels_hold:
        return args[:3] + (thinnings.levels(*args[:3]),)
    return args


class ArgumentsTest(unittest.TestCase):
    def test_lists_and_tuples(self):
        for call, args in CALLS:
            args = filled(call, args)
            expected = call(*args)
            self.assertTrue(is_plain(expected))
            for form in (listed, mixed, lambda value: mixed(value, True)):
                found = call(*[form(arg) for arg in args])
                self.assertEqual(found, expected)
                self.assertTrue(is_plain(found))

    def test_by_name(self):
        for call, args in CALLS:
            args = filled(call, args)
            names = list(inspect.signature(call).parameters)
            self.assertEqual(call(**dict(zip(names, args))), call(*args))

    def test_nothing_that_is_handed_in_is_changed(self):
        for call, args in CALLS:
            args = [listed(arg) for arg in filled(call, args)]
            kept = copy.deepcopy(args)
            call(*args)
            self.assertEqual(args, kept)

    def test_nothing_is_changed_by_a_call_that_raises(self):
        for call, good in CALLS:
            for at in range(len(good)):
                args = [listed(arg) for arg in filled(call, good)]
                args[at] = [[], ["x"], -1]
                kept = copy.deepcopy(args)
                try:
                    call(*args)
                except Exception as error:
                    self.assertEqual(type(error).__module__, "cornerfade.errors")
                self.assertEqual(args, kept)

    def test_later_changes_have_no_effect(self):
        for call, args in CALLS:
            args = [listed(arg) for arg in filled(call, args)]
            found = call(*args)
            kept = copy.deepcopy(found)
            args[0][0][0][0] = "other"
            for line in args[0][1]:
                line[3].clear()
            self.assertEqual(found, kept)

    def test_the_same_answer_again(self):
        for call, args in CALLS:
            args = filled(call, args)
            self.assertEqual(call(*args), call(*copy.deepcopy(args)))

    def test_the_map_is_checked_first(self):
        # Deep, long and large values stand for every argument, the map first of all.
        deep = []
        for _ in range(19):
            deep = [deep]
        for value in (deep, [deep] * 3, ["abc"] * 4999, "a" * 20000, -(10 ** 30), [[]] * 2500, None, True):
            for call, args in CALLS:
                bad_value(self, 0, call, *[value] * len(args))
                if len(args) > 1 and args[0] is TENT:
                    with self.assertRaises(Exception) as caught:
                        call(TENT, *[value] * (len(args) - 1))
                    self.assertIn(type(caught.exception).__name__, ("BadValue", "NoStage"))


class GreatestMapsTest(unittest.TestCase):
    def test_they_are_greatest_maps(self):
        for world in (NEAR, GREATEST):
            nodes, lines, marks = world
            self.assertEqual((len(nodes), len(lines), len(marks)), (16, 16, 10))
            self.assertEqual(len(flows.corners(world)), 60)
            self.assertIs(is_legal(world), True)

    def test_answers(self):
        self.assertEqual(fades.stages(GREATEST), 60)
        last = fades.stage(GREATEST, 60)
        self.assertEqual(flows.corners(last), [])
        self.assertIs(alike(GREATEST, last), True)
        self.assertEqual(fades.at_scale(GREATEST, 10 ** 30), last)
        self.assertEqual(thinnings.thinned_all(GREATEST, MOST), last)
        self.assertEqual(len(fades.sizes(GREATEST)), 61)
        self.assertEqual(fades.fade(GREATEST), flows.stages(GREATEST)[0])

    def test_corners_that_stay(self):
        # Five zigzags of 12 corners each, and marks that bar some of these.
        nodes, lines = [], []
        for k, letter in enumerate("abcde"):
            nodes += [(letter, 1000 * k, 0), (letter + "z", 1000 * k + 650, 0), (letter + "y", -50 - k, -50)]
            corners = [(1000 * k + 50 * j, 30 + 400 * (j % 2)) for j in range(1, 13)]
            lines.append((letter, letter, letter + "z", tuple(corners)))
        marks = tuple(
            ("m" + "abcdefghij"[k], 500 * k + 100 - 200 * (k % 2), 5, 1, 1) for k in range(10)
        )
        world = moved((tuple(nodes), tuple(lines), marks), 100000, 0, 0)
        self.assertIs(is_legal(world), True)
        drops_told, maps, left = flows.stages(world)
        self.assertEqual(len(drops_told) + len(left), 60)
        self.assertGreater(len(left), 4)
        self.assertEqual(fades.fade(world), drops_told)
        self.assertEqual([row[:2] for row in fades.stays(world)], left)
        self.assertEqual(fades.stage(world, len(drops_told)), maps[-1])
        for nearness in (0, 10 ** 12, MOST):
            found = thinnings.thinned_all(world, nearness)
            self.assertIs(is_legal(found) and alike(world, found), True)
        self.assertLess(self.seconds(fades.sizes, world), 2)

    def seconds(self, call, *args):
        """How long a call takes."""
        start = time.perf_counter()
        call(*args)
        return time.perf_counter() - start

    def test_quickly(self):
        for call, args in CALLS:
            self.assertLess(self.seconds(call, *filled(call, args)), 2)


if __name__ == "__main__":
    unittest.main()
