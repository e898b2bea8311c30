"""Drops: which corners can be dropped, and how the map flows when one is."""

from cornerfade.errors import BadValue, CannotDrop
from cornerfade.maps import is_between, is_integer, legal_map, path_named, points_of, without_corners
from cornerfade.plane import cross, first_in_hull

FARTHEST_FRAMED = 10000
LARGEST_BOTTOM = 10000


def corner_at(path, number):
    """The places before, at and behind the corner that was passed as argument 2 beside a path."""
    if not is_between(number, 0, len(path) - 3):
        raise BadValue(2)
    return path[number:number + 3]


def size_between(places):
    """Twice the area of the triangle of three places."""
    before, corner, after = places
    return abs(cross(before, corner, after))


def triangle(world, line, number):
    """The three places of a corner's triangle, in their sequence on the line."""
    return corner_at(path_named(legal_map(world, 0), line), number)


def size(world, line, number):
    """Twice the area of a corner's triangle."""
    return size_between(triangle(world, line, number))


def barred_by(world, line, number):
    """The place of a point of the map in a corner's triangle, None if it can be dropped."""
    known = legal_map(world, 0)
    places = corner_at(path_named(known, line), number)
    return first_in_hull(points_of(known), places)


def can_drop(world, line, number):
    """Whether a corner can be dropped."""
    return barred_by(world, line, number) is None


def dropped(world, line, number):
    """The map without a corner that can be dropped."""
    known = legal_map(world, 0)
    point = barred_by(known, line, number)
    if point is not None:
        raise CannotDrop(point)
    return without_corners(known, [(line, number)])


def framed_map(world):
    """The legal map that was passed as argument 0, none of its points too far out for frames."""
    known = legal_map(world, 0)
    for x, y in points_of(known):
        if abs(x) > FARTHEST_FRAMED or abs(y) > FARTHEST_FRAMED:
            raise BadValue(0)
    return known


def check_moment(top, bottom, at):
    """Refuses what is no moment top / bottom, top being argument number at, bottom the next one."""
    if not is_integer(top) or top < 0:
        raise BadValue(at)
    if not is_between(bottom, max(1, top), LARGEST_BOTTOM):
        raise BadValue(at + 1)


def frame_at(world, line, number, top, bottom):
    """The map at a moment of a corner's flow, multiplied by 2 * bottom."""
    nodes, lines, marks = world
    factor = 2 * bottom
    before, corner, after = corner_at(path_named(world, line), number)
    # The corner goes to half the sum of its neighbours: the factor takes the half away.
    moved = tuple([
        factor * corner[axis] + top * (before[axis] + after[axis] - 2 * corner[axis])
        for axis in range(2)
    ])
    flowing = [
        (name, start, end, tuple([
            moved if (name, at) == (line, number) else (x * factor, y * factor)
            for at, (x, y) in enumerate(corners)
        ]))
        for name, start, end, corners in lines
    ]
    return (
        tuple([(name, x * factor, y * factor) for name, x, y in nodes]),
        tuple(flowing),
        tuple([(name, x * factor, y * factor, wide, high) for name, x, y, wide, high in marks]),
    )


def frame(world, line, number, top, bottom):
    """The map at the moment top / bottom of the flow, multiplied by 2 * bottom."""
    known = framed_map(world)
    corner_at(path_named(known, line), number)
    check_moment(top, bottom, 3)
    return frame_at(known, line, number, top, bottom)
