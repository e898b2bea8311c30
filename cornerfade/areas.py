"""Areas of a map, and the turn in which lines leave its nodes."""

from cornerfade.errors import BadValue
from cornerfade.maps import is_place, legal_map, paths_of, places_of, plain, segments_of
from cornerfade.plane import on_segment, ranks_around, surrounds, twice_around

FARTHEST_ASKED = 2000000000


class Outline:
    """A closed walk along sides of lines that keeps one area on its left."""

    def __init__(self, sides, places):
        self.sides = sides
        self.places = places
        self.size = twice_around(places)


class Region:
    """An area with the outlines that border it; the rim is the one around it, if any."""

    def __init__(self, rim):
        self.rim = rim
        self.outlines = [] if rim is None else [rim]


def turn_at(world, name):
    """The lines that leave a node, counterclockwise from the least name on."""
    paths = paths_of(world)
    ahead = {}
    for line, start, end, _ in world[1]:
        if start == name:
            ahead[line] = paths[line][1]
        elif end == name:
            ahead[line] = paths[line][-2]
    if not ahead:
        return ()
    lines = sorted(ahead)
    places = [ahead[line] for line in lines]
    ranks = ranks_around(places_of(world)[name], places[0], places)
    return tuple([line for _, line in sorted(zip(ranks, lines))])


def following_sides(world):
    """For each side the next one on the outline that walks along it.

    The left side is walked from the line's start to its end, the right side
    back, so that the area is on the walk's left. At a node the walk goes on
    along the next line clockwise, which is the earlier one in the turn.
    """
    starts = {line[0]: line[1] for line in world[1]}
    following = {}
    for node in world[0]:
        around = turn_at(world, node[0])
        for at, line in enumerate(around):
            arriving = "right" if starts[line] == node[0] else "left"
            onward = around[at - 1]
            leaving = "left" if starts[onward] == node[0] else "right"
            following[line, arriving] = (onward, leaving)
    return following


def places_along(world, sides):
    """The places of the points of a closed walk along sides, each one once."""
    paths = paths_of(world)
    places = []
    for line, side in sides:
        path = paths[line] if side == "left" else paths[line][::-1]
        places.extend(path[:-1])
    return places


def outlines_of(world):
    """All outlines; each side stands in one of them."""
    following = following_sides(world)
    seen = set()
    found = []
    for first in sorted(following):
        if first in seen:
            continue
        sides = []
        side = first
        while side not in seen:
            seen.add(side)
            sides.append(side)
            side = following[side]
        found.append(Outline(sides, places_along(world, sides)))
    return found


def region_at(regions, place):
    """The first of the regions whose rim surrounds a place, otherwise the last one."""
    for region in regions[:-1]:
        if surrounds(region.rim.places, place):
            return region
    return regions[-1]


def regions_of(world):
    """All areas, those with smaller rims first and the one without a bound last.

    An outline that runs clockwise, or goes around nothing, is the outer one of
    a piece: it lies in the innermost area that surrounds the piece.
    """
    found = sorted(outlines_of(world), key=lambda outline: outline.size)
    regions = [Region(outline) for outline in found if outline.size > 0]
    regions.append(Region(None))
    for outline in found:
        if outline.size <= 0:
            # Nothing of the piece is to the right of this place, so that no
            # rim of the piece itself is taken to surround it.
            around = region_at(regions, max(outline.places))
            around.outlines.append(outline)
    return regions


def told(region):
    """The tuple of the sides of an area, ascending."""
    return tuple(sorted([side for outline in region.outlines for side in outline.sides]))


def size_of(region):
    """Twice the size of an area, None for the one without a bound."""
    if region.rim is None:
        return None
    return sum([outline.size for outline in region.outlines])


def areas_of(regions):
    """What tells each of the areas, ascending."""
    return tuple(sorted([told(region) for region in regions]))


def areas(world):
    """The areas of a map, ascending, each one a tuple of its sides."""
    return areas_of(regions_of(legal_map(world, 0)))


def area_of(world, place):
    """The area in which a place lies, None if it lies on a line."""
    known = legal_map(world, 0)
    if not is_place(place, FARTHEST_ASKED):
        raise BadValue(1)
    spot = tuple(place)
    if any([on_segment(spot, segment) for _, segment in segments_of(known)]):
        return None
    return told(region_at(regions_of(known), spot))


def turn(world, name):
    """The names of the lines of a node, as they leave it counterclockwise."""
    known = legal_map(world, 0)
    if name not in [node[0] for node in known[0]]:
        raise BadValue(1)
    return turn_at(known, name)


def likeness(world):
    """All that maps which are alike in areas have in common."""
    nodes, lines, marks = world
    regions = regions_of(world)
    turns = [turn_at(world, node[0]) for node in nodes]
    lone_places = [node[1:] for node, around in zip(nodes, turns) if not around]
    places = lone_places + [mark[1:3] for mark in marks]
    return (
        nodes,
        [line[:3] for line in lines],
        marks,
        areas_of(regions),
        turns,
        [told(region_at(regions, place)) for place in places],
    )


def alike(one, other):
    """Whether two maps are alike in areas."""
    first = legal_map(one, 0)
    second = legal_map(other, 1)
    return likeness(first) == likeness(second)


def twice(world, area):
    """Twice the size of an area, None for the one without a bound."""
    regions = regions_of(legal_map(world, 0))
    asked = plain(area)
    for region in regions:
        if told(region) == asked:
            return size_of(region)
    raise BadValue(1)


def pieces(world):
    """The number of pieces that the lines join the nodes to."""
    known = legal_map(world, 0)
    leaders = {node[0]: node[0] for node in known[0]}
    for line in known[1]:
        kept, joined = leaders[line[1]], leaders[line[2]]
        for name in list(leaders):
            if leaders[name] == joined:
                leaders[name] = kept
    return len(set(list(leaders.values())))
