"""Zooms: a map shown at one stage of its fade, up and down."""

from cornerfade.errors import BadValue, NoStage, NotLegal
from cornerfade.fades import faded, maps_while, scales_of
from cornerfade.maps import (
    FARTHEST, is_between, is_label_size, is_legal, is_name, is_place, legal_map,
)


class Zoom:
    """A map and the stage of its fade that is shown."""

    def __init__(self, world):
        self.number = 0
        self.follow(legal_map(world, 0))

    def follow(self, world):
        """Takes up the fade of a map, at the stage that is shown or the last one before it."""
        gone, _ = faded(world)
        self.maps = maps_while(world, gone)
        self.scales = [0] + scales_of(gone)
        self.number = min(self.number, len(gone))

    def down(self):
        """Shows the next stage."""
        self.to(self.number + 1)

    def up(self):
        """Shows the stage before."""
        self.to(self.number - 1)

    def to(self, number):
        """Shows the stage with this number."""
        if not is_between(number, 0, len(self.maps) - 1):
            raise NoStage(number)
        self.number = number

    def here(self):
        """The number of the stage that is shown."""
        return self.number

    def shown(self):
        """The map of the stage that is shown."""
        return self.maps[self.number]

    def scale(self):
        """The scale of the drop that leads to the stage that is shown, 0 at stage 0."""
        return self.scales[self.number]

    def __len__(self):
        """The number of stages."""
        return len(self.maps)

    def marked(self, name, place, size):
        """Puts a further mark on the map, behind the others, with a label of this size."""
        nodes, lines, marks = self.whole()
        if not is_name(name) or name in [mark[0] for mark in marks]:
            raise BadValue(0)
        if not is_place(place, FARTHEST):
            raise BadValue(1)
        if not is_label_size(size):
            raise BadValue(2)
        world = (nodes, lines, (*marks, (name, *place, *size)))
        # With a mark too many it is no map at all, and so no legal one.
        if not is_legal(world):
            raise NotLegal()
        self.follow(world)

    def whole(self):
        """The map at stage 0."""
        return self.maps[0]
