"""Fades: maps that lose their corners one after the other, and the stages between."""

from cornerfade.areas import regions_of, size_of, told
from cornerfade.drops import check_moment, frame_at, framed_map, size_between
from cornerfade.errors import BadValue, NoStage
from cornerfade.maps import is_between, is_integer, legal_map, paths_of, points_of, without_corners
from cornerfade.plane import first_in_hull


class Bend:
    """A corner at some stage: its number in the given map, and its triangle there."""

    def __init__(self, line, number, places):
        self.line = line
        self.number = number
        self.places = places
        self.size = size_between(places)


class Fading:
    """A map of which corners are dropped, with all that is known of its triangles."""

    def __init__(self, world):
        self.points = {place: True for place in points_of(world)}
        self.rows = {
            line: [(at - 1, place) for at, place in enumerate(path)]
            for line, path in paths_of(world).items()
        }
        self.bars = {}

    def bends(self):
        """The corners that are still there, by line name, then along the line."""
        found = []
        for line in sorted(self.rows):
            row = self.rows[line]
            for at in range(1, len(row) - 1):
                places = (row[at - 1][1], row[at][1], row[at + 1][1])
                found.append(Bend(line, row[at][0], places))
        return found

    def is_there(self, point):
        """Whether what was found to bar a corner, a place or None, does so still."""
        return point is None or point in self.points

    def bar(self, bend):
        """The place of a point that bars a corner now, None if there is none.

        Points only go. So a triangle once free stays free, and a point that
        bars a triangle does so until it is dropped itself.
        """
        places = bend.places
        if places not in self.bars or not self.is_there(self.bars[places]):
            self.bars[places] = first_in_hull(self.points, places)
        return self.bars[places]

    def next_bend(self):
        """The corner to drop next, None if no corner can be dropped."""
        # Sorting keeps corners of one size by line name, then along the line.
        for bend in sorted(self.bends(), key=lambda each: each.size):
            if self.bar(bend) is None:
                return bend
        return None

    def drop(self, bend):
        """Takes a corner out."""
        self.rows[bend.line].remove((bend.number, bend.places[1]))
        del self.points[bend.places[1]]


def faded(world):
    """The corners that the fade of a map drops, in their sequence, and what is left then."""
    fading = Fading(world)
    gone = []
    bend = fading.next_bend()
    while bend is not None:
        gone.append(bend)
        fading.drop(bend)
        bend = fading.next_bend()
    return gone, fading


def stage_after(world, gone):
    """The map without the corners that are gone."""
    return without_corners(world, [(bend.line, bend.number) for bend in gone])


def maps_while(world, gone):
    """The maps of all stages, while one corner after the other goes."""
    return [stage_after(world, gone[:many]) for many in range(len(gone) + 1)]


def scales_of(gone):
    """For each drop the greatest size of it and all drops before it."""
    found = []
    for bend in gone:
        found.append(max(bend.size, found[-1]) if found else bend.size)
    return found


def fade(world):
    """The drops of the fade as triples (line, number, size)."""
    gone, _ = faded(legal_map(world, 0))
    return tuple([(bend.line, bend.number, bend.size) for bend in gone])


def stage(world, number):
    """The map after the first drops of its fade, as many as number says."""
    known = legal_map(world, 0)
    gone, _ = faded(known)
    if not is_between(number, 0, len(gone)):
        raise NoStage(number)
    return stage_after(known, gone[:number])


def stages(world):
    """The number of drops of the fade."""
    return len(fade(world))


def scales(world):
    """The scales of the drops."""
    gone, _ = faded(legal_map(world, 0))
    return tuple(scales_of(gone))


def at_scale(world, scale):
    """The stage after all drops of at most this scale."""
    known = legal_map(world, 0)
    if not is_integer(scale) or scale < 0:
        raise BadValue(1)
    gone, _ = faded(known)
    reached = [bend for bend, told_scale in zip(gone, scales_of(gone)) if told_scale <= scale]
    return stage_after(known, reached)


def moment(world, number, top, bottom):
    """The frame of a drop of the fade, at the moment top / bottom of its flow."""
    known = framed_map(world)
    gone, _ = faded(known)
    if not is_between(number, 0, len(gone) - 1):
        raise NoStage(number)
    check_moment(top, bottom, 2)
    bend = gone[number]
    before = gone[:number]
    missing = [other for other in before if other.line == bend.line and other.number < bend.number]
    return frame_at(stage_after(known, before), bend.line, bend.number - len(missing), top, bottom)


def stays(world):
    """The corners of the last stage as triples (line, number, place of a point that bars it)."""
    _, fading = faded(legal_map(world, 0))
    return tuple([(bend.line, bend.number, fading.bar(bend)) for bend in fading.bends()])


def sizes_of(world):
    """The areas of a map in their order, each with twice its size."""
    return tuple(sorted([(told(region), size_of(region)) for region in regions_of(world)]))


def sizes(world):
    """For every stage of the fade its areas, each with twice its size."""
    known = legal_map(world, 0)
    gone, _ = faded(known)
    return tuple([sizes_of(shown) for shown in maps_while(known, gone)])
