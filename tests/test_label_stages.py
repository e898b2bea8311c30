"""[44]: the stages at which labels stand."""

import unittest

from cornerfade.fades import fade, stage, stages
from cornerfade.labels import label_stages, labels
from cornerfade.maps import is_legal
from tests import boxes, flows
from tests.samples import (
    EMPTY, ILLEGAL, LEGAL, LINE, NO_MAPS, TENT, bad_value, greatest_map, is_plain, listed, mixed,
    moved, one_line,
)

# The bump in the middle is dropped first, which pulls the line down to height 2;
# then the dip on its left, which lets the line rise; then the other one.
BUMP = one_line((0, 10), (6, 2), (10, 5), (14, 2), (20, 10))


def under(world, *marks):
    """The map with these marks alone."""
    return world[0], world[1], marks


class LabelStagesTest(unittest.TestCase):
    def told(self, world, *rows):
        """Asserts that label_stages tells just these pairs."""
        self.assertIs(is_legal(world), True)
        found = label_stages(world)
        self.assertEqual(found, rows)
        self.assertTrue(is_plain(found))

    def test_the_fade_of_the_bump(self):
        self.assertEqual(fade(BUMP), (("l", 1, 24), ("l", 0, 64), ("l", 2, 160)))

    def test_one_that_gives_way_and_comes_back(self):
        mark = ("m", 10, 0, 0, 4)
        world = under(BUMP, mark)
        self.assertEqual(fade(world), fade(BUMP))
        self.told(world, ("m", ((0, 0), (2, 3))))

    def test_each_height(self):
        # The line is above x = 10 at the heights 5, 2, then 4 and two sevenths, then 10.
        for high, spans in (
            (0, ((0, 3),)), (1, ((0, 3),)), (2, ((0, 0), (2, 3))), (4, ((0, 0), (2, 3))), (5, ((3, 3),)),
            (9, ((3, 3),)), (10, ()), (1000000, ()),
        ):
            self.told(under(BUMP, ("m", 10, 0, 0, high)), ("m", spans))

    def test_from_the_first_stage_on(self):
        self.told(under(BUMP, ("m", 10, 20, 5, 5)), ("m", ((0, 3),)))
        self.told(under(BUMP, ("m", 10, -5, 5, 5)), ("m", ((0, 3),)))

    def test_at_no_stage(self):
        self.told(under(BUMP, ("m", 10, 0, 0, 10)), ("m", ()))
        self.told(
            under(BUMP, ("m", 10, -9, 3, 3), ("n", 12, -7, 0, 0)), ("m", ()), ("n", ((0, 3),)),
        )

    def test_only_until_and_only_from_a_stage(self):
        # Each of the first two touches a dip from below, the last one the straight line.
        self.told(under(BUMP, ("m", 6, -2, 0, 4)), ("m", ((2, 3),)))
        self.told(under(BUMP, ("m", 14, -2, 0, 4)), ("m", ((3, 3),)))
        self.told(under(BUMP, ("m", 4, 10, 1, 0)), ("m", ((0, 2),)))

    def test_a_mark_that_ends_the_fade(self):
        # It is above the line, and bars the last corner: there are two drops only.
        self.told(under(BUMP, ("m", 10, 6, 0, 0)), ("m", ((0, 2),)))

    def test_an_earlier_label_that_stands_for_a_while(self):
        first, second = ("z", 10, 0, 0, 4), ("a", 9, -3, 2, 3)
        # The second one contains the first mark.
        self.told(under(BUMP, first, second), ("z", ((0, 0), (2, 3))), ("a", ()))
        # This one meets the first label, not its mark, nor the line at height 2.
        second = ("a", 9, 1, 2, 0)
        self.told(under(BUMP, first, second), ("z", ((0, 0), (2, 3))), ("a", ((1, 1),)))
        self.told(under(BUMP, second, first), ("a", ((0, 3),)), ("z", ()))

    def test_without_drops(self):
        self.told(EMPTY)
        self.told(LINE)
        self.told(under(EMPTY, ("m", 0, 0, 3, 3)), ("m", ((0, 0),)))
        self.told(under(LINE, ("m", 0, -3, 3, 3), ("n", 0, -7, 3, 3)), ("m", ()), ("n", ((0, 0),)))

    def test_in_the_sequence_of_the_marks(self):
        marks = (("z", 0, -9, 1, 1), ("a", 3, -9, 1, 1), ("m", 6, -9, 1, 1))
        self.told(under(BUMP, *marks), *[(mark[0], ((0, 3),)) for mark in marks])
        self.told(under(BUMP, *marks[::-1]), *[(mark[0], ((0, 3),)) for mark in marks[::-1]])

    def test_spans_tell_the_labels_of_each_stage(self):
        comes_back = partly = 0
        maps = boxes.labelled_maps(range(150), (6, 9, 14), 120, 5)
        for world in maps + list(LEGAL) + [greatest_map()]:
            found = label_stages(world)
            last = stages(world)
            self.assertEqual([row[0] for row in found], [mark[0] for mark in world[2]])
            for n in range(last + 1):
                standing = tuple(
                    name for name, spans in found if any(low <= n <= high for low, high in spans)
                )
                self.assertEqual(labels(stage(world, n)), standing)
            for _, spans in found:
                edges = [-2] + [edge for span in spans for edge in span] + [last + 2]
                for before, after in zip(edges[::2], edges[1::2]):
                    self.assertGreater(after - before, 1)
                self.assertTrue(all(0 <= low <= high <= last for low, high in spans))
                comes_back += len(spans) > 1
                partly += spans not in ((), ((0, last),))
        self.assertGreater(partly, 30)
        self.assertGreater(comes_back, 0)

    def test_second_answers(self):
        for world in boxes.labelled_maps(range(200, 260), (6, 9, 14), 100, 5):
            self.assertEqual(label_stages(world), boxes.label_stages(world))

    def test_far_out(self):
        far = moved(under(BUMP, ("m", 10, 0, 0, 4), ("n", 10, 20, 0, 0)), 250000, 100000000, -1000000000)
        marks = tuple(mark[:4] + (mark[4] * 250000,) for mark in far[2])
        self.told(far[:2] + (marks,), ("m", ((0, 0), (2, 3))), ("n", ((0, 3),)))

    def test_lists(self):
        world = under(BUMP, ("m", 10, 0, 0, 4))
        for form in (listed, mixed, lambda value: mixed(value, True)):
            self.assertEqual(label_stages(form(world)), (("m", ((0, 0), (2, 3))),))
            self.assertTrue(is_plain(label_stages(form(world))))

    def test_no_legal_map(self):
        for world in NO_MAPS + ILLEGAL:
            bad_value(self, 0, label_stages, world)
            bad_value(self, 0, label_stages, listed(world))

    def test_the_example(self):
        self.assertEqual(label_stages(TENT), (("hut", ((0, 2),)),))
        self.assertEqual(len(flows.stages(TENT)[1]), 3)


if __name__ == "__main__":
    unittest.main()
