"""[45], [11]: zooms, up and down the stages of a fade."""

import random
import unittest

from cornerfade.errors import BadValue, MapError, NoStage, NotLegal
from cornerfade.fades import scales, stage, stages
from cornerfade.maps import is_legal
from cornerfade.zooms import Zoom
from tests import flows
from tests.samples import (
    EMPTY, ILLEGAL, LEGAL, LINE, NESTED, NO_INTEGERS, NO_MAPS, STEPS, TENT, bad_value, greatest_map,
    is_plain, listed, mixed, one_line, state,
)


def no_stage(test, number, zoom, call, *args):
    """Asserts that the call raises NoStage with this very number, and changes nothing."""
    kept = state(zoom)
    with test.assertRaises(NoStage) as caught:
        call(*args)
    test.assertIs(type(caught.exception), NoStage)
    if args:
        test.assertIs(caught.exception.number, number)
    else:
        test.assertIs(type(caught.exception.number), int)
        test.assertEqual(caught.exception.number, number)
    test.assertEqual(state(zoom), kept)


class ZoomTest(unittest.TestCase):
    def shows(self, zoom, world, number):
        """Asserts that a zoom shows this stage of this map."""
        last = stages(world)
        steps = (0,) + scales(world)
        expected = (number, stage(world, number), steps[number], world, last + 1)
        self.assertEqual(state(zoom), expected)
        self.assertTrue(is_plain(state(zoom)))

    def test_at_first(self):
        for world in LEGAL + (STEPS, greatest_map()):
            zoom = Zoom(world)
            self.shows(zoom, world, 0)
            self.assertEqual(zoom.shown(), world)
            self.assertEqual(zoom.scale(), 0)

    def test_down_and_up_again(self):
        for world in LEGAL + (STEPS, greatest_map()):
            zoom = Zoom(world)
            last = stages(world)
            for number in range(1, last + 1):
                self.assertIsNone(zoom.down())
                self.shows(zoom, world, number)
            no_stage(self, last + 1, zoom, zoom.down)
            no_stage(self, last + 1, zoom, zoom.down)
            for number in range(last - 1, -1, -1):
                self.assertIsNone(zoom.up())
                self.shows(zoom, world, number)
            no_stage(self, -1, zoom, zoom.up)
            no_stage(self, -1, zoom, zoom.up)
            self.shows(zoom, world, 0)

    def test_the_stages_of_the_steps(self):
        zoom = Zoom(STEPS)
        told = [(zoom.here(), zoom.scale())]
        for _ in range(4):
            zoom.down()
            told.append((zoom.here(), zoom.scale()))
        self.assertEqual(told, [(0, 0), (1, 0), (2, 20), (3, 52), (4, 52)])
        self.assertEqual(zoom.shown(), one_line((0, 0), (20, 1)))
        self.assertEqual(len(zoom), 5)

    def test_to_every_stage_from_every_stage(self):
        for world in (STEPS, TENT, NESTED, EMPTY, LINE):
            for start in range(stages(world) + 1):
                for number in range(stages(world) + 1):
                    zoom = Zoom(world)
                    self.assertIsNone(zoom.to(start))
                    self.assertIsNone(zoom.to(number))
                    self.shows(zoom, world, number)
                    self.assertIsNone(zoom.to(number=number))
                    self.shows(zoom, world, number)

    def test_to_no_stage(self):
        for world, many in ((STEPS, 5), (TENT, 3), (EMPTY, 1), (LINE, 1)):
            zoom = Zoom(world)
            zoom.to(many - 1)
            for number in NO_INTEGERS + (
                -1, many, many + 1, 10 ** 30, -(10 ** 30), "abc", (0, 1), [1], "\n", [[[]]],
            ):
                no_stage(self, number, zoom, zoom.to, number)
            self.shows(zoom, world, many - 1)

    def test_true_is_not_1(self):
        zoom = Zoom(STEPS)
        zoom.to(1)
        no_stage(self, True, zoom, zoom.to, True)
        no_stage(self, False, zoom, zoom.to, False)
        self.shows(zoom, STEPS, 1)

    def test_zooms_do_not_change_one_another(self):
        value = listed(STEPS)
        one, other, third = Zoom(value), Zoom(value), Zoom(STEPS)
        one.down()
        third.to(4)
        self.shows(one, STEPS, 1)
        self.shows(other, STEPS, 0)
        other.to(3)
        one.marked("m", (0, 9), (1, 1))
        self.shows(one, STEPS[:2] + ((("m", 0, 9, 1, 1),),), 1)
        self.shows(other, STEPS, 3)
        self.shows(third, STEPS, 4)
        self.assertEqual(value, listed(STEPS))

    def test_lists(self):
        for world in (STEPS, NESTED, greatest_map(900000)):
            for form in (listed, mixed, lambda value: mixed(value, True)):
                value = form(world)
                zoom = Zoom(value)
                self.shows(zoom, world, 0)
                zoom.down()
                self.shows(zoom, world, 1)
                self.assertEqual(value, form(world))

    def test_by_name(self):
        zoom = Zoom(world=TENT)
        zoom.to(number=2)
        zoom.marked(name="new", place=(3, 9), size=(1, 2))
        self.assertEqual(zoom.whole(), TENT[:2] + ((("hut", 5, 2, 1, 1), ("new", 3, 9, 1, 2)),))

    def test_no_legal_map(self):
        for world in NO_MAPS + ILLEGAL:
            bad_value(self, 0, Zoom, world)
            bad_value(self, 0, Zoom, listed(world))


class Model:
    """What a zoom should tell, from the functions of the stages alone."""

    def __init__(self, world):
        self.world, self.number = world, 0

    def go(self, number, told):
        if type(number) is not int or not 0 <= number <= stages(self.world):
            raise NoStage(told)
        self.number = number

    def mark(self, name, place, size):
        nodes, lines, marks = self.world
        if type(name) is not str or name in [mark[0] for mark in marks]:
            raise BadValue(0)
        changed = (nodes, lines, marks + ((name, *place, *size),))
        if not is_legal(changed):
            raise NotLegal()
        self.world = changed
        self.number = min(self.number, stages(changed))

    def state(self):
        steps = (0,) + scales(self.world)
        return (
            self.number, stage(self.world, self.number), steps[self.number], self.world, len(steps),
        )


def attempt(call, *args):
    """What a call that may raise an error of the package did."""
    try:
        call(*args)
    except MapError as error:
        return type(error).__name__, vars(error)
    return None


class LongSequencesTest(unittest.TestCase):
    def step(self, draw, zoom, model):
        """Makes one call of both, and tells which."""
        kind = draw.choice(("down", "down", "up", "to", "to", "mark"))
        if kind == "down":
            number = model.number + 1
            self.assertEqual(attempt(zoom.down), attempt(model.go, number, number))
        elif kind == "up":
            number = model.number - 1
            self.assertEqual(attempt(zoom.up), attempt(model.go, number, number))
        elif kind == "to":
            last = len(zoom) - 1
            number = draw.choice((None, True, -1, "1", (1,), 0, 1, 2, 3, 4, last, last, last, last + 1))
            self.assertEqual(attempt(zoom.to, number), attempt(model.go, number, number))
        else:
            args = (
                draw.choice(("ma", "mb", "x", "y", "z", None)),
                (draw.randrange(-1, 10), draw.randrange(-1, 10)), (draw.randrange(3), 1),
            )
            self.assertEqual(attempt(zoom.marked, *args), attempt(model.mark, *args))
        return kind

    def test_sequences(self):
        fewer = marked = 0
        for seed in range(40):
            draw = random.Random(seed)
            world = flows.bent_map(seed, (9, 14)[seed % 2], 120, 3)
            zoom, model = Zoom(world), Model(world)
            for _ in range(50):
                before = model.number, model.world
                self.step(draw, zoom, model)
                self.assertEqual(state(zoom), model.state())
                self.assertEqual(zoom.shown(), stage(zoom.whole(), zoom.here()))
                if model.world != before[1]:
                    marked += 1
                    fewer += model.number < before[0]
        self.assertGreater(marked, 60)
        self.assertGreater(fewer, 2)

    def test_stages_by_a_second_answer(self):
        for seed in range(20):
            world = flows.bent_map(seed, (6, 9)[seed % 2], 120)
            drops, maps, _ = flows.stages(world)
            zoom = Zoom(world)
            self.assertEqual(len(zoom), len(maps))
            for number, expected in enumerate(maps):
                zoom.to(number)
                self.assertEqual(zoom.shown(), expected)
                self.assertEqual(zoom.scale(), max([0] + [size for _, _, size in drops[:number]]))


if __name__ == "__main__":
    unittest.main()
