"""Thinnings: lines drawn with fewer corners, by shortcuts that nothing stands in."""

from itertools import combinations

from cornerfade.errors import BadLevels, BadValue
from cornerfade.maps import (
    have_different_names, is_between, is_column, is_integer, is_row, is_sequence, legal_map,
    path_named, paths_of, points_of, without_corners,
)
from cornerfade.plane import first_in_hull, is_within

LARGEST_NEARNESS = 10000000000000000000


def check_nearness(nearness, at):
    """Refuses what is no nearness, as argument number at."""
    if not is_between(nearness, 0, LARGEST_NEARNESS):
        raise BadValue(at)


def check_shortcut(path, i, j):
    """Refuses what is no shortcut of a path, i and j being arguments 2 and 3."""
    if not is_between(i, 0, len(path) - 1):
        raise BadValue(2)
    if not is_between(j, i + 1, len(path) - 1):
        raise BadValue(3)


def clears(points, path, i, j):
    """Whether none of the points lies in the hull of a path from i to j, but for these."""
    return first_in_hull(points, path[i:j + 1]) is None


def keeps_near(path, i, j, nearness):
    """Whether a path strays no further than the nearness from the segment that joins i and j."""
    return all([is_within(place, (path[i], path[j]), nearness) for place in path[i + 1:j]])


def fit_shortcuts(world, path, nearness):
    """The fit shortcuts of a line with this path, ascending."""
    points = points_of(world)
    return [
        (i, j)
        for i, j in combinations(range(len(path)), 2)
        if keeps_near(path, i, j, nearness) and clears(points, path, i, j)
    ]


def last_point(fit):
    """The number of a line's last point: the last segment is its last fit shortcut."""
    return fit[-1][1]


def is_clear(world, line, i, j):
    """Whether a shortcut is clear."""
    known = legal_map(world, 0)
    path = path_named(known, line)
    check_shortcut(path, i, j)
    return clears(points_of(known), path, i, j)


def is_near(world, line, i, j, nearness):
    """Whether a shortcut is near."""
    path = path_named(legal_map(world, 0), line)
    check_shortcut(path, i, j)
    check_nearness(nearness, 4)
    return keeps_near(path, i, j, nearness)


def shortcuts(world, line, nearness):
    """The fit shortcuts of a line, ascending."""
    known = legal_map(world, 0)
    path = path_named(known, line)
    check_nearness(nearness, 2)
    return tuple(fit_shortcuts(known, path, nearness))


def ascends_through(value, last):
    """Whether value is a sequence of integers that ascends from 0 to last."""
    if not is_sequence(value) or not all([is_between(number, 0, last) for number in value]):
        return False
    if len(value) == 0 or value[0] != 0 or value[-1] != last:
        return False
    return all([value[at] < value[at + 1] for at in range(len(value) - 1)])


def is_thinning(world, line, nearness, value):
    """Whether value is a thinning of a line by fit shortcuts."""
    fit = shortcuts(world, line, nearness)
    if not ascends_through(value, last_point(fit)):
        return False
    return all([(value[at], value[at + 1]) in fit for at in range(len(value) - 1)])


def fewest_through(fit):
    """The first of the shortest ways along the fit shortcuts of a line, from end to end."""
    last = last_point(fit)
    steps_left = {last: 0}
    onward = {}
    for i, j in reversed(fit):
        # Of equally short ways on the one by the nearest point is found last.
        if i not in onward or steps_left[j] < steps_left[i]:
            steps_left[i] = steps_left[j] + 1
            onward[i] = j
    way = [0]
    while way[-1] != last:
        way.append(onward[way[-1]])
    return way


def fewest(world, line, nearness):
    """The first of the thinnings of a line with the fewest members."""
    return tuple(fewest_through(shortcuts(world, line, nearness)))


def levels(world, line, nearness):
    """For each point of a line the least number of fit shortcuts that lead to it."""
    found = {0: 0}
    for i, j in shortcuts(world, line, nearness):
        if j not in found or found[i] + 1 < found[j]:
            found[j] = found[i] + 1
    return tuple([found[number] for number in range(len(found))])


def is_wrong_level(value, j, fit):
    """Whether the level of point j shows that levels do not hold; those before it do."""
    if not is_integer(value[j]) or (j == 0 and value[j] != 0):
        return True
    return any([value[j] > value[i] + 1 for i, end in fit if end == j])


def levels_hold(world, line, nearness, value):
    """True if value is levels for a line and nearness; BadLevels if not."""
    fit = shortcuts(world, line, nearness)
    if not is_sequence(value):
        raise BadLevels(0)
    many = last_point(fit) + 1
    common = min(len(value), many)
    for j in range(common):
        if is_wrong_level(value, j, fit):
            raise BadLevels(j)
    if len(value) != many:
        raise BadLevels(common)
    return True


def is_choice(world, value):
    """Whether value is a pair of a line's name and points of it that clear shortcuts join."""
    paths = paths_of(world)
    if not is_row(value, 2) or value[0] not in list(paths):
        return False
    line, numbers = value
    path = paths[line]
    points = points_of(world)
    return ascends_through(numbers, len(path) - 1) and all([
        clears(points, path, numbers[at], numbers[at + 1]) for at in range(len(numbers) - 1)
    ])


def are_choices(world, value):
    """Whether value is a sequence of choices for different lines of a map."""
    if not is_column(value, len(world[1])):
        return False
    return all([is_choice(world, pair) for pair in value]) and have_different_names(value)


def with_points(world, chosen):
    """The map in which the chosen lines have the points with the chosen numbers alone."""
    paths = paths_of(world)
    return without_corners(world, [
        (line, number)
        for line, numbers in chosen
        for number in range(len(paths[line]) - 2)
        if number + 1 not in numbers
    ])


def thinned(world, chosen):
    """The map in which each chosen line is drawn by its chosen clear shortcuts."""
    known = legal_map(world, 0)
    if not are_choices(known, chosen):
        raise BadValue(1)
    return with_points(known, chosen)


def thinned_all(world, nearness):
    """The map in which every line has the points of its first fewest thinning alone."""
    known = legal_map(world, 0)
    check_nearness(nearness, 1)
    return with_points(known, [
        (line, fewest_through(fit_shortcuts(known, path, nearness)))
        for line, path in paths_of(known).items()
    ])
