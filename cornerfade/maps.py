"""Maps: what a map is, when it is legal, and what is wrong if it is not."""

from itertools import combinations

from cornerfade.errors import BadValue
from cornerfade.plane import on_same_ray, on_segment, segments_meet

LETTERS = "abcdefghijklmnopqrstuvwxyz"
LONGEST_NAME = 8
FARTHEST = 1000000000
LARGEST_LABEL = 1000000
MOST_NODES = 16
MOST_LINES = 16
MOST_MARKS = 10
MOST_CORNERS_OF_LINE = 12
MOST_CORNERS = 60


def is_integer(value):
    """Whether value is an integer; True and False are none."""
    return isinstance(value, int) and not isinstance(value, bool)


def is_between(value, low, high):
    """Whether value is an integer from low to high."""
    return is_integer(value) and low <= value <= high


def is_sequence(value):
    """Whether value is a list or a tuple."""
    return isinstance(value, (list, tuple))


def is_row(value, many):
    """Whether value is a sequence of so many things."""
    return is_sequence(value) and len(value) == many


def is_column(value, most):
    """Whether value is a sequence of at most so many things."""
    return is_sequence(value) and len(value) <= most


def is_name(value):
    """Whether value is a name."""
    if not isinstance(value, str) or not 1 <= len(value) <= LONGEST_NAME:
        return False
    return all([sign in LETTERS for sign in value])


def is_place(value, farthest):
    """Whether value is a pair of integers that are at most farthest from 0."""
    return is_row(value, 2) and all([is_between(part, -farthest, farthest) for part in value])


def is_label_size(value):
    """Whether value is the size (wide, high) of a label."""
    return is_row(value, 2) and all([is_between(part, 0, LARGEST_LABEL) for part in value])


def is_node(value):
    """Whether value is a node."""
    return is_row(value, 3) and is_name(value[0]) and is_place(value[1:], FARTHEST)


def is_mark(value):
    """Whether value is a mark."""
    if not is_row(value, 5) or not is_name(value[0]):
        return False
    return is_place(value[1:3], FARTHEST) and is_label_size(value[3:])


def is_line(value, node_names):
    """Whether value is a line between two of the nodes."""
    if not is_row(value, 4) or not is_name(value[0]):
        return False
    _, start, end, corners = value
    if start not in node_names or end not in node_names or start == end:
        return False
    return is_column(corners, MOST_CORNERS_OF_LINE) and all(
        [is_place(corner, FARTHEST) for corner in corners]
    )


def have_different_names(rows):
    """Whether no two rows begin with one name."""
    return len({row[0] for row in rows}) == len(rows)


def is_map(value):
    """Whether value is a map, legal or not."""
    if not is_row(value, 3):
        return False
    nodes, lines, marks = value
    if not is_column(nodes, MOST_NODES) or not all([is_node(node) for node in nodes]):
        return False
    if not is_column(marks, MOST_MARKS) or not all([is_mark(mark) for mark in marks]):
        return False
    node_names = [node[0] for node in nodes]
    if not is_column(lines, MOST_LINES) or not all([is_line(line, node_names) for line in lines]):
        return False
    if sum([len(line[3]) for line in lines]) > MOST_CORNERS:
        return False
    return all([have_different_names(rows) for rows in (nodes, lines, marks)])


def plain(value):
    """The same value with plain tuples for its lists and tuples, at every level."""
    if not is_sequence(value):
        return value
    return tuple([plain(part) for part in value])


def places_of(world):
    """The place of each node, by its name."""
    return {name: (x, y) for name, x, y in world[0]}


def paths_of(world):
    """The places of the points of each line, by its name."""
    places = places_of(world)
    return {
        name: (places[start], *corners, places[end])
        for name, start, end, corners in world[1]
    }


def segments_of(world):
    """All segments, as pairs of what tells it and its two places."""
    return [
        ((line, number), (path[number], path[number + 1]))
        for line, path in paths_of(world).items()
        for number in range(len(path) - 1)
    ]


def standing_points_of(world):
    """All nodes and marks, as pairs of what tells it and its place."""
    nodes, _, marks = world
    return [(("node", node[0]), node[1:]) for node in nodes] + [
        (("mark", mark[0]), mark[1:3]) for mark in marks
    ]


def corners_of(world):
    """All corners, as pairs of what tells it and its place."""
    return [
        (("corner", line[0], number), corner)
        for line in world[1]
        for number, corner in enumerate(line[3])
    ]


def points_of(world):
    """The places of all points of a map."""
    return [place for _, place in standing_points_of(world) + corners_of(world)]


def without_corners(world, gone):
    """The map without the corners that the pairs (line, number) of a sequence tell."""
    nodes, lines, marks = world
    left = [
        (name, start, end, tuple([
            corner for number, corner in enumerate(corners) if (name, number) not in gone
        ]))
        for name, start, end, corners in lines
    ]
    return (nodes, tuple(left), marks)


def find_twins(world):
    """Two lines with the same ends, as a fault; None if there are none."""
    lines_between = {}
    for name, start, end, _ in world[1]:
        ends = (min(start, end), max(start, end))
        if ends in lines_between:
            return ("twins", lines_between[ends], name)
        lines_between[ends] = name
    return None


def find_same_place(world):
    """Two points at one place, as a fault; None if there are none."""
    points_at = {}
    for point, place in standing_points_of(world) + corners_of(world):
        if place in points_at:
            return ("place", points_at[place], point)
        points_at[place] = point
    return None


def meet_wrongly(one, other):
    """Whether two segments share a place beside a joint end.

    There are no twins, and all points of the map have places of their own. So
    segments have one end in common at most, and this one is allowed: a corner
    joins neighbouring segments only, and whatever ends at one place ends at a node.
    """
    for joint in one:
        if joint in other:
            far = one[1] if joint == one[0] else one[0]
            other_far = other[1] if joint == other[0] else other[0]
            return on_same_ray(joint, far, other_far)
    return segments_meet(one, other)


def find_meeting(world):
    """Two segments that meet though they may not, as a fault; None if there are none."""
    segments = segments_of(world)
    for (one, first), (other, second) in combinations(segments, 2):
        if meet_wrongly(first, second):
            return ("meet", one, other)
    return None


def find_point_on_segment(world):
    """A node or mark on a segment that does not end there, as a fault; None if there is none."""
    points = standing_points_of(world)
    for told, segment in segments_of(world):
        for point, place in points:
            if place not in segment and on_segment(place, segment):
                return ("on", point, told)
    return None


def find_fault(world):
    """A fault of a map of plain tuples, or None; each search builds on those before it."""
    return (
        find_twins(world)
        or find_same_place(world)
        or find_meeting(world)
        or find_point_on_segment(world)
    )


def is_legal(value):
    """Whether value is a legal map."""
    return is_map(value) and find_fault(plain(value)) is None


def fault(value):
    """None for a legal map, otherwise what is wrong: a word and two things that meet."""
    if not is_map(value):
        raise BadValue(0)
    return find_fault(plain(value))


def legal_map(value, at):
    """The legal map that was passed as argument number at, in plain tuples."""
    if not is_legal(value):
        raise BadValue(at)
    return plain(value)


def path_named(world, line):
    """The places of the points of the line that was passed as argument 1 beside a map."""
    paths = paths_of(world)
    if line not in list(paths):
        raise BadValue(1)
    return paths[line]
