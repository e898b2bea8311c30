"""Slow second answers about labels, and maps whose marks have labels of many sizes."""

import random
from fractions import Fraction

from cornerfade.maps import is_legal
from tests import flows, oracle


def sides_of(mark):
    """For each axis the least and the greatest number of a label."""
    _, x, y, wide, high = mark
    return (x, x + wide), (y, y + high)


def holds(mark, place):
    """Whether a label contains a place."""
    return all(low <= part <= high for part, (low, high) in zip(place, sides_of(mark)))


def meets_segment(mark, one, other):
    """Whether some part of the way from one place to another lies in a label."""
    first, last = Fraction(0), Fraction(1)
    for axis, (low, high) in enumerate(sides_of(mark)):
        start, step = one[axis], other[axis] - one[axis]
        if step == 0:
            if not low <= start <= high:
                return False
        else:
            shares = sorted((Fraction(low - start, step), Fraction(high - start, step)))
            first, last = max(first, shares[0]), min(last, shares[1])
    return first <= last


def meets_label(mark, other):
    """Whether two labels meet: on each axis some number is in both."""
    return all(
        max(low, other_low) <= min(high, other_high)
        for (low, high), (other_low, other_high) in zip(sides_of(mark), sides_of(other))
    )


def all_met(world, mark, standing):
    """Everything that a label meets, as (word, name), by the words, then in the told sequence."""
    lines = {row[0] for row in oracle.segments(world) if meets_segment(mark, row[2], row[3])}
    ended = {name for line in world[1] for name in line[1:3]}
    nodes = {name for name, x, y in world[0] if name not in ended and holds(mark, (x, y))}
    return (
        [("line", name) for name in sorted(lines)]
        + [("node", name) for name in sorted(nodes)]
        + [("mark", row[0]) for row in world[2] if row != mark and holds(mark, row[1:3])]
        + [("label", row[0]) for row in standing if meets_label(mark, row)]
    )


def setting(world):
    """The names of the marks whose labels stand, and (name, word, other) of all others."""
    standing, others = [], []
    for mark in world[2]:
        met = all_met(world, mark, standing)
        if met:
            others.append((mark[0],) + met[0])
        else:
            standing.append(mark)
    return tuple(mark[0] for mark in standing), tuple(others)


def label_stages(world):
    """For each mark the runs of the stages at which its label stands."""
    maps = flows.stages(world)[1]
    found = []
    for mark in world[2]:
        signs = "".join("x" if mark[0] in setting(each)[0] else " " for each in maps)
        spans = [
            (first, last)
            for first in range(len(signs)) for last in range(first, len(signs))
            if set(signs[first:last + 1]) == {"x"}
            and signs[:first][-1:] != "x" and signs[last + 1:][:1] != "x"
        ]
        found.append((mark[0], tuple(spans)))
    return tuple(found)


def labelled(world, seed, largest):
    """The map with other sizes for its labels."""
    draw = random.Random(seed)
    choices = [0, 0, 1, 1, 2, 3, largest // 2, largest]
    marks = tuple(mark[:3] + (draw.choice(choices), draw.choice(choices)) for mark in world[2])
    return world[:2] + (marks,)


def labelled_maps(seeds, widths, tries=60, largest=6):
    """Maps on small grids with labels of many sizes."""
    return [
        labelled(flows.bent_map(seed, widths[seed % len(widths)], tries), seed, largest)
        for seed in seeds
    ]


def crowd(seed, width, longest):
    """A map of up to ten marks with long and thin labels, a few nodes, and perhaps a line."""
    draw = random.Random(seed)
    places = draw.sample([(x, y) for x in range(width) for y in range(width)], 14)
    nodes = tuple(("n" + "bac"[k], *places.pop()) for k in range(draw.randrange(4)))
    lines = (("l", "na", "nb", ()),) if len(nodes) > 1 and draw.randrange(4) == 0 else ()
    marks = []
    for name in draw.sample("abcdefghij", 10):
        long, short = draw.randrange(longest), draw.randrange(2)
        size = (long, short) if draw.randrange(2) else (short, long)
        changed = (nodes, lines, (*marks, (name, *places.pop(), *size)))
        if is_legal(changed):
            marks = changed[2]
    return nodes, lines, tuple(marks)
