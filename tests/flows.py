"""Slow second answers about drops, fades and thinnings, and maps with many corners.

Whether a drop is allowed is found from its flow alone: the map is looked at, over
fractions, at every moment at which three points come to lie straight, and between these.
"""

import random
from fractions import Fraction
from functools import cache
from itertools import combinations

from cornerfade.maps import is_legal
from tests import oracle


def with_corners(world, line, corners):
    """The map with other corners on a line."""
    return (
        world[0],
        tuple(row[:3] + (tuple(corners),) if row[0] == line else row for row in world[1]),
        world[2],
    )


def path_of(world, line):
    """The places of the points of a line."""
    return [tuple(place) for place in dict(oracle.paths(world))[line]]


def corners(world):
    """(line, number) of every corner."""
    return [(row[0], k) for row in world[1] for k in range(len(row[3]))]


def across(a, b, c):
    """Twice the size of a triangle, with a sign."""
    return (b[0] - a[0]) * (c[1] - a[1]) - (b[1] - a[1]) * (c[0] - a[0])


def in_triangle(place, a, b, c):
    """Whether a place lies in a triangle, which may be flat."""
    whole = across(a, b, c)
    if whole == 0:
        pairs = ((a, b), (b, c), (a, c))
        return any(oracle.share_of(place, one, other) is not None for one, other in pairs)
    shares = (across(a, b, place), across(b, c, place), across(c, a, place))
    return all(share * whole >= 0 for share in shares)


def in_hull(place, places):
    """Whether a place lies in a convex hull: then it lies in a triangle of its points."""
    if len(places) == 2:
        return oracle.share_of(place, *places) is not None
    return any(in_triangle(place, *three) for three in combinations(places, 3))


def inside(world, places):
    """All points of a map in the convex hull of points of it, other than these."""
    return [
        place for _, place in oracle.points(world)
        if place not in places and in_hull(place, places)
    ]


def bars(world, line, number):
    """All points that bar a corner."""
    return inside(world, path_of(world, line)[number:number + 3])


def at_moment(world, line, number, share):
    """The map at a moment of the flow, with fractions."""
    (a, b), (c, d), (e, f) = path_of(world, line)[number:number + 3]
    moved = (c + share * (Fraction(a + e, 2) - c), d + share * (Fraction(b + f, 2) - d))
    rest = path_of(world, line)[1:-1]
    return with_corners(world, line, rest[:number] + [moved] + rest[number + 1:])


def moments(world, line, number):
    """The moments at which the corner comes to lie straight with two other points, and 0 and 1."""
    corner = path_of(world, line)[number + 1]
    (last,) = [
        place for told, place in oracle.points(at_moment(world, line, number, Fraction(1)))
        if told == ("corner", line, number)
    ]
    others = [place for _, place in oracle.points(world) if place != corner]
    found = {Fraction(0), Fraction(1)}
    for one, other in combinations(others, 2):
        early, late = across(one, other, corner), across(one, other, last)
        if early != late:
            share = Fraction(early) / (early - late)
            if 0 <= share <= 1:
                found.add(share)
    return sorted(found)


def always_legal(world, line, number):
    """Whether the map is legal at all moments of a flow: nothing changes between those told."""
    told = moments(world, line, number)
    between = [(one + other) / 2 for one, other in zip(told, told[1:])]
    return not any(oracle.faults(at_moment(world, line, number, share)) for share in told + between)


def stages(world):
    """The drops (line, number, size) of a fade, the maps of all stages, and the corners left."""
    numbers = {row[0]: list(range(len(row[3]))) for row in world[1]}
    drops, maps = [], [world]
    while True:
        free = []
        for line, k in corners(world):
            if not bars(world, line, k):
                size = abs(across(*path_of(world, line)[k:k + 3]))
                free.append((size, line, k))
        if not free:
            left = [(line, numbers[line][k]) for line, k in sorted(corners(world))]
            return tuple(drops), maps, left
        size, line, k = min(free)
        drops.append((line, numbers[line].pop(k), size))
        rest = path_of(world, line)[1:-1]
        world = with_corners(world, line, rest[:k] + rest[k + 1:])
        maps.append(world)


def square(place, one, other):
    """The square of the distance of a place from a segment."""
    (x, y), (a, b), (c, d) = place, one, other
    share = Fraction((x - a) * (c - a) + (y - b) * (d - b), (c - a) ** 2 + (d - b) ** 2)
    share = max(Fraction(0), min(Fraction(1), share))
    return (a + share * (c - a) - x) ** 2 + (b + share * (d - b) - y) ** 2


def is_clear(world, line, i, j):
    """Whether a shortcut is clear."""
    return not inside(world, path_of(world, line)[i:j + 1])


def is_near(world, line, i, j, nearness):
    """Whether a shortcut is near."""
    path = path_of(world, line)
    return all(square(place, path[i], path[j]) <= nearness for place in path[i:j + 1])


def fit(world, line, nearness):
    """All fit shortcuts."""
    return [
        (i, j) for i, j in combinations(range(len(path_of(world, line))), 2)
        if is_near(world, line, i, j, nearness) and is_clear(world, line, i, j)
    ]


def thinnings(world, line, nearness):
    """All thinnings of a line."""
    last = len(path_of(world, line)) - 1
    allowed = set(fit(world, line, nearness))
    found = []
    for many in range(last):
        for between in combinations(range(1, last), many):
            row = (0, *between, last)
            if all(pair in allowed for pair in zip(row, row[1:])):
                found.append(row)
    return found


@cache
def bent_map(seed, width, tries=60, most=8):
    """A legal map on a small grid, whose lines get one corner after the other."""
    draw = random.Random(seed)
    world = ((), (), ())

    def place():
        return draw.randrange(width), draw.randrange(width)

    for _ in range(tries):
        nodes, lines, marks = world
        kind = draw.choice("nnmllcccccc")
        if kind == "n" and len(nodes) < most:
            nodes += (("n" + chr(97 + len(nodes)), *place()),)
        if kind == "m" and len(marks) < 6:
            marks += (("m" + chr(97 + len(marks)), *place(), draw.randrange(3), 2),)
        if kind == "l" and len(lines) < most and len(nodes) > 1:
            start, end = draw.sample([node[0] for node in nodes], 2)
            lines += (("l" + draw.choice("abcdefgh") + chr(97 + len(lines)), start, end, ()),)
        changed = (nodes, lines, marks)
        if kind == "c" and lines:
            line = draw.choice(lines)
            at = draw.randrange(len(line[3]) + 1)
            changed = with_corners(world, line[0], line[3][:at] + (place(),) + line[3][at:])
        if is_legal(changed):
            world = changed
    return world
