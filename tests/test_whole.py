"""[12], [15], [17], [18] over the whole program: what holds for every function of the interface."""

import copy
import time
import unittest
from functools import cache

from cornerfade.areas import areas
from cornerfade.errors import BadValue, NoStage
from cornerfade.maps import fault, is_legal, is_map
from cornerfade.texts import parse, printed
from cornerfade.zooms import Zoom
from tests.interface import FUNCTIONS
from tests.samples import (
    EMPTY, ILLEGAL, LINE, NESTED, NO_MAPS, STAR, TENT, bad_value, greatest_map, is_plain, listed, mixed, state,
)

NEAR, GREATEST = greatest_map(10), greatest_map(900000)
# Fitting arguments for each parameter, for maps that have a line of this name with a corner.
LINES = {"rim": TENT, "free": NESTED, "lnw": STAR, "dzz": NEAR, "axx": GREATEST}
OTHERS = {
    "number": 0, "top": 3, "bottom": 7, "place": (7, -3), "scale": 100, "i": 0, "j": 1,
    "nearness": 50, "chosen": (),
}
# Those that take any map, and the one that takes none.
FREE = ("is_map", "is_legal", "fault", "printed", "parse")


def functions(*but):
    """(function, names of its parameters) of the whole interface."""
    return [
        (getattr(module, name), parameters)
        for module, table in FUNCTIONS.items() for name, parameters in table.items() if name not in but
    ] + [(Zoom, ["world"])]


@cache
def fitting(line):
    """A fitting argument for each parameter, for the map that has this line."""
    world = LINES[line]
    points = len(dict((row[0], row[3]) for row in world[1])[line]) + 2
    return dict(
        OTHERS, world=world, one=world, other=world, line=line, name=world[0][0][0],
        area=areas(world)[0], text=printed(world), value=(0,) * points,
    )


def arguments(parameters, line):
    """Fitting arguments for a function."""
    if parameters == ["value"]:
        return [LINES[line]]
    return [fitting(line)[name] for name in parameters]


def answer(call, args):
    """What a call returns; what a zoom tells for a zoom."""
    found = call(*args)
    return state(found) if call is Zoom else found


def with_part(world, at, rows):
    """The map with other nodes, lines or marks."""
    return world[:at] + (tuple(rows),) + world[at + 1:]


def no_maps():
    """Maps with one thing that [17] does not allow."""
    nodes, lines, marks = LINE
    row = lines[0]
    long = tuple((k, 50 + k * k) for k in range(13))
    found = [with_part(LINE, 0, nodes + (node,)) for node in (
        ("a", 5, 5), ("C", 5, 5), ("", 5, 5), ("abcdefghi", 5, 5), (1, 5, 5), ("c", 5), ("c", 5, 5, 5),
        ("c", True, 5), ("c", 5, None), ("c", 10 ** 9 + 1, 5), ("c", 5, -(10 ** 9) - 1), "cde",
    )]
    found.append(with_part(LINE, 0, nodes + tuple(("x" + chr(97 + k), k, 9) for k in range(15))))
    found += [with_part(LINE, 1, (line,)) for line in (
        ("Ab",) + row[1:], ("l", "a", "a", ()), ("l", "a", "z", ()), ("l", "z", "a", ()), ("l", "a", "b"),
        ("l", "a", "b", (), ()), ("l", "a", "b", long), ("l", "a", "b", ((1,),)), ("l", "a", "b", ((1, True),)),
        ("l", "a", "b", ((1, 10 ** 9 + 1),)), ("l", "a", "b", (1, 2)), ("l", "a", "b", "12"), ("l", "a", "b", None),
    )]
    found.append(with_part(LINE, 1, (row, row)))
    found.append(with_part(LINE, 1, [(chr(97 + k), "a", "b", ()) for k in range(17)]))
    found.append(with_part(LINE, 1, [(chr(97 + k), "a", "b", long[:11]) for k in range(6)]))
    found += [with_part(LINE, 2, (mark,)) for mark in (
        ("M", 5, 5, 1, 1), ("m", 5, 5, 1), ("m", 5, 5, 1, 1, 1), ("m", 5, 5, -1, 1), ("m", 5, 5, 1, 1000001),
        ("m", 5, 5, True, 1), ("m", 5, 5, 1, None), ("m", False, 5, 1, 1), ("m", 5, 10 ** 30, 1, 1),
    )]
    found.append(with_part(LINE, 2, [("m", 5, 5, 1, 1), ("m", 6, 6, 1, 1)]))
    found.append(with_part(LINE, 2, [("m" + chr(97 + k), k, 7, 1, 1) for k in range(11)]))
    return found


class LegalMapsAloneTest(unittest.TestCase):
    def refused(self, value):
        """Asserts that every function that takes a legal map refuses a value."""
        for call, parameters in functions(*FREE):
            bad_value(self, 0, call, value, *[None] * (len(parameters) - 1))
            for line in ("rim", "axx"):
                bad_value(self, 0, call, value, *arguments(parameters, line)[1:])
            if parameters == ["one", "other"]:
                bad_value(self, 0, call, value, value)
                bad_value(self, 1, call, EMPTY, value)

    def test_each_way_of_not_being_legal(self):
        words = []
        for world in ILLEGAL:
            for form in (lambda value: value, listed, mixed):
                self.refused(form(world))
                self.assertIs(is_map(form(world)), True)
                self.assertIs(is_legal(form(world)), False)
                self.assertEqual(parse(printed(form(world))), world)
                words.append(fault(form(world))[0])
        self.assertEqual(set(words), {"twins", "place", "meet", "on"})

    def test_more_maps_that_are_not_legal(self):
        nodes = (("a", 0, 0), ("b", 10, 0), ("c", 5, 9))
        for world in (
            (nodes, (("l", "a", "b", ((5, 9),)),), ()),
            (nodes, (("l", "a", "b", ((2, 2), (2, 2))),), ()),
            (nodes, (("l", "a", "b", ((20, 0),)),), ()),
            (nodes, (("l", "a", "b", ((8, 5), (2, 5), (5, -5))),), ()),
            (nodes, (("l", "a", "b", ()), ("k", "a", "c", ((5, 0),))), ()),
            (nodes, (("l", "a", "b", ()),), (("m", 5, 9, 0, 0),)),
            (nodes, (("l", "a", "b", ()),), (("m", 5, 5, 0, 0), ("n", 5, 5, 0, 0))),
            (nodes + (("d", 5, 0),), (("l", "a", "b", ()),), ()),
        ):
            self.assertIsNotNone(fault(world))
            self.refused(world)

    def test_no_maps(self):
        self.assertIs(is_legal(LINE), True)
        for value in NO_MAPS + tuple(no_maps()):
            self.refused(value)
            self.assertIs(is_map(value), False)
            self.assertIs(is_legal(value), False)
            bad_value(self, 0, fault, value)
            bad_value(self, 0, printed, value)

    def test_no_maps_in_lists(self):
        for value in no_maps():
            self.refused(listed(value))


class EveryFunctionTest(unittest.TestCase):
    def each(self, *lines):
        """(function, fitting arguments) of the whole interface, for these lines."""
        for line in lines:
            for call, parameters in functions():
                # Frames and moments are for maps that are not too wide.
                if line != "axx" or "bottom" not in parameters:
                    yield call, arguments(parameters, line)

    def test_lists_and_tuples(self):
        for call, args in self.each(*LINES):
            expected = answer(call, args)
            self.assertTrue(is_plain(expected))
            for form in (listed, mixed, lambda value: mixed(value, True)):
                found = answer(call, [form(arg) for arg in args])
                self.assertEqual(found, expected)
                self.assertTrue(is_plain(found))

    def test_nothing_that_is_handed_in_is_changed(self):
        for call, args in self.each("rim", "free"):
            args = [listed(arg) for arg in args]
            kept = copy.deepcopy(args)
            found = answer(call, args)
            self.assertEqual(args, kept)
            again = copy.deepcopy(found)
            for arg in args:
                if isinstance(arg, list):
                    for part in arg:
                        if isinstance(part, list):
                            part.clear()
                    arg.clear()
            self.assertEqual(found, again)

    def test_by_name_and_again(self):
        for line in ("rim", "lnw"):
            for call, parameters in functions():
                args = arguments(parameters, line)
                expected = answer(call, args)
                found = call(**dict(zip(parameters, args)))
                self.assertEqual(state(found) if call is Zoom else found, expected)
                self.assertEqual(answer(call, copy.deepcopy(args)), expected)

    def test_true_is_no_integer(self):
        for call, parameters in functions(*FREE):
            for at, name in enumerate(parameters):
                if name in ("number", "top", "bottom", "scale", "i", "j", "nearness"):
                    args = arguments(parameters, "rim")
                    args[at] = name in ("j", "bottom", "top")
                    with self.assertRaises((BadValue, NoStage)) as caught:
                        call(*args)
                    told = caught.exception
                    if isinstance(told, NoStage):
                        self.assertIs(told.number, args[at])
                    else:
                        self.assertEqual(told.at, at)

    def test_the_greatest_maps_quickly(self):
        for call, args in self.each("dzz", "axx"):
            start = time.perf_counter()
            answer(call, args)
            self.assertLess(time.perf_counter() - start, 2)


if __name__ == "__main__":
    unittest.main()
