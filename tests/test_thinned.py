"""[7], [40], [41]: maps with chosen shortcuts, and with the fewest ones on every line."""

import random
import unittest

from cornerfade.areas import alike
from cornerfade.drops import can_drop, dropped
from cornerfade.maps import is_legal
from cornerfade.thinnings import fewest, is_clear, thinned, thinned_all
from tests import flows, oracle
from tests.samples import (
    EMPTY, ILLEGAL, LEGAL, LINE, NESTED, NO_INTEGERS, NO_MAPS, TENT, bad_value, greatest_map,
    is_plain, listed, mixed, moved, one_line,
)

MOST = 10 ** 19
NO_NEARNESS = NO_INTEGERS + (-1, MOST + 1, 10 ** 30, -(10 ** 30))
TWO = (
    (("a", 0, 0), ("b", 10, 0), ("c", 0, 20), ("d", 10, 20)),
    (
        ("low", "a", "b", ((2, 1), (5, 6), (8, 1))),
        ("high", "d", "c", ((9, 25), (5, 26), (1, 25))),
        ("side", "b", "d", ((11, 10),)),
    ),
    (("hut", 5, 2, 1, 1),),
)


def with_points(world, chosen):
    """The map in which the chosen lines have these points alone."""
    for line, numbers in chosen:
        path = flows.path_of(world, line)
        world = flows.with_corners(world, line, [path[k] for k in numbers[1:-1]])
    return world


def random_choice(world, draw):
    """Clear shortcuts on some of the lines, taken at random."""
    chosen = []
    for line in world[1]:
        last = len(line[3]) + 1
        numbers = [0]
        while numbers[-1] != last:
            ahead = range(numbers[-1] + 1, last + 1)
            clear = [j for j in ahead if flows.is_clear(world, line[0], numbers[-1], j)]
            numbers.append(draw.choice(clear))
        if draw.randrange(4):
            chosen.append((line[0], tuple(numbers)))
    draw.shuffle(chosen)
    return tuple(chosen)


class ThinnedTest(unittest.TestCase):
    def test_some_lines_and_all(self):
        for chosen in (
            (), (("low", (0, 2, 4)),), (("low", (0, 1, 2, 4)),), (("high", (0, 4)),),
            (("high", (0, 2, 4)), ("low", (0, 2, 4))), (("side", (0, 2)), ("low", (0, 1, 2, 3, 4))),
            (("low", (0, 2, 3, 4)), ("side", (0, 1, 2)), ("high", (0, 1, 4))),
        ):
            for form in (lambda value: value, listed, mixed, lambda value: mixed(value, True)):
                found = thinned(form(TWO), form(chosen))
                self.assertEqual(found, with_points(TWO, chosen))
                self.assertTrue(is_plain(found))

    def test_nothing_chosen(self):
        for world in LEGAL + (greatest_map(),):
            self.assertEqual(thinned(world, ()), world)
            self.assertEqual(thinned(listed(world), []), world)

    def test_more_lines_than_nodes(self):
        nodes = (("a", 0, 0), ("b", 30, 0), ("c", 15, 30), ("m", 15, 10))
        joins = ("ab", "bc", "ca", "am", "bm", "cm")
        corners = dict(zip(joins, ((15, -1), (25, 20), (5, 20), (8, 5), (22, 5), (15, 20))))
        lines = tuple((join, join[0], join[1], (corners[join],)) for join in joins)
        for many in range(7):
            found = thinned((nodes, lines, ()), tuple((join, (0, 2)) for join in joins[:many]))
            self.assertEqual([len(line[3]) for line in found[1]], [0] * many + [1] * (6 - many))

    def test_random_choices(self):
        draw = random.Random(3)
        shorter = 0
        for seed in range(60):
            world = flows.bent_map(seed, (6, 9, 20)[seed % 3], 150)
            chosen = random_choice(world, draw)
            found = thinned(world, chosen)
            self.assertEqual(found, with_points(world, chosen))
            self.assertIs(is_legal(found), True)
            self.assertFalse(oracle.faults(found))
            self.assertIs(alike(world, found), True)
            shorter += self.drops_lead_to(world, found)
        self.assertGreater(shorter, 100)

    def drops_lead_to(self, world, wanted):
        """Asserts that drops alone lead from a map to another one, and tells how many."""
        many = 0
        while world != wanted:
            kept = [place for _, place in oracle.points(wanted)]
            free = [
                (line, k) for line, k in flows.corners(world)
                if flows.path_of(world, line)[k + 1] not in kept and can_drop(world, line, k)
            ]
            self.assertTrue(free)
            world = dropped(world, *free[0])
            many += 1
        return many

    def test_far_out(self):
        far = moved(TWO, 40000000, -10 ** 9, -10 ** 9)
        chosen = (("low", (0, 2, 4)), ("high", (0, 4)))
        self.assertEqual(thinned(far, chosen), with_points(far, chosen))


class WrongChoicesTest(unittest.TestCase):
    def bad(self, chosen):
        bad_value(self, 1, thinned, TWO, chosen)
        bad_value(self, 1, thinned, TWO, listed(chosen))

    def test_no_sequence_of_pairs(self):
        for chosen in NO_INTEGERS[:7] + (
            0, 10 ** 30, "low", ("low", (0, 4)), ("low",), ("low", "side"), (None,), ((),), (("low",),),
            (("low", (0, 2, 4), 1),), ((0, 2, 4),), (("low", (0, 2, 4)), None), ("ab",), ("",), (0,), (True,),
        ):
            if chosen not in ((), []):
                self.bad(chosen)

    def test_no_lines(self):
        for line in (None, True, 0, "", "lo", "a", "hut", ("low",), (), (("low",),), 10 ** 30, "LOW"):
            self.bad(((line, (0, 2, 4)),))
            self.bad((("side", (0, 2)), (line, (0, 2, 4))))
        bad_value(self, 1, thinned, EMPTY, (("low", (0, 1)),))

    def test_one_line_twice(self):
        self.bad((("low", (0, 2, 4)), ("low", (0, 2, 4))))
        self.bad((("low", (0, 2, 4)), ("side", (0, 2)), ("low", (0, 1, 2, 3, 4))))
        self.bad((("low", (0, 2, 4)),) * 1200)

    def test_no_numbers(self):
        for numbers in (
            None, True, False, 0, 4, "024", "", (), (0,), (4,), (0, 2), (0, 2, 3), (2, 4), (1, 2, 4),
            (0, 2, 2, 4), (0, 0, 2, 4), (0, 2, 4, 4), (0, 2, 1, 4), (4, 2, 0), (0, 2, 4, 5), (-1, 0, 2, 4),
            (0, 2, 5), (False, 2, 4), (0, True, 2, 4), (0, None, 4), (0, "2", 4), (0, (2,), 4), ((0, 2, 4),),
            (0, 2, 4, None), (None,), (0, 2, 10 ** 30), (0, 2, 4, 2, 4), tuple(range(4000)),
        ):
            self.bad((("low", numbers),))
            self.bad((("high", (0, 4)), ("low", numbers)))

    def test_no_clear_shortcuts(self):
        for numbers in ((0, 4), (0, 3, 4), (0, 1, 4), (0, 1, 3, 4)):
            self.bad((("low", numbers),))
            self.bad((("high", (0, 4)), ("low", numbers)))
        self.assertEqual(thinned(TWO[:2] + ((),), (("low", (0, 4)),))[1][0][3], ())

    def test_points_of_other_lines_are_those_of_the_given_map(self):
        # The corner of low is in the hull of high, though the choice takes it out, too.
        nodes = (("a", 0, 0), ("b", 20, 0), ("c", 2, -5), ("d", 18, -5))
        world = (nodes, (("high", "a", "b", ((10, 20),)), ("low", "c", "d", ((10, 5),))), ())
        bad_value(self, 1, thinned, world, (("low", (0, 2)), ("high", (0, 2))))
        self.assertEqual(thinned(world, (("low", (0, 2)),))[1][1][3], ())

    def test_no_legal_map(self):
        for world in NO_MAPS + ILLEGAL:
            bad_value(self, 0, thinned, world, ())
            bad_value(self, 0, thinned_all, world, 0)
        bad_value(self, 0, thinned, None, None)
        bad_value(self, 0, thinned_all, None, None)

    def test_no_nearness(self):
        for nearness in NO_NEARNESS:
            for world in (TWO, EMPTY, LINE):
                bad_value(self, 1, thinned_all, world, nearness)


class ThinnedAllTest(unittest.TestCase):
    def test_every_line_has_its_fewest_points(self):
        self.assertEqual(thinned_all(TENT, 5), with_points(TENT, (("rim", (0, 2, 4)),)))
        self.assertEqual(thinned_all(TWO, MOST), with_points(TWO, (
            ("low", (0, 2, 4)), ("high", (0, 4)), ("side", (0, 2)),
        )))
        self.assertEqual(thinned_all(TWO, 0), TWO)
        self.assertTrue(is_plain(thinned_all(listed(TWO), 5)))
        for world in LEGAL + (greatest_map(),):
            for nearness in (0, 9, MOST):
                chosen = [(line[0], fewest(world, line[0], nearness)) for line in world[1]]
                found = thinned_all(world, nearness)
                self.assertEqual(found, with_points(world, chosen))
                self.assertIs(alike(found, world), True)

    def test_random_maps(self):
        for seed in range(40):
            world = flows.bent_map(seed, (6, 9, 20)[seed % 3], 150)
            for nearness in (0, 4, 30, MOST):
                chosen = [(line[0], fewest(world, line[0], nearness)) for line in world[1]]
                found = thinned_all(world, nearness)
                self.assertEqual(found, with_points(world, chosen))
                self.assertEqual(found, thinned(world, chosen))
                self.assertIs(is_legal(found) and alike(world, found), True)

    def test_maps_without_a_corner(self):
        for world in (EMPTY, LINE, one_line((0, 0), (1, 1))):
            self.assertEqual(thinned_all(world, MOST), world)
        self.assertIs(is_clear(NESTED, "free", 0, 2), True)
        self.assertEqual(dict((row[0], row[3]) for row in thinned_all(NESTED, MOST)[1])["free"], ())


if __name__ == "__main__":
    unittest.main()
