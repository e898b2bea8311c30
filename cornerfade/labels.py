"""Labels: boxes that are set at the marks, one after the other, where nothing else stands."""

from cornerfade.fades import faded, maps_while
from cornerfade.maps import legal_map, segments_of
from cornerfade.plane import box_meets, boxes_touch


def box_of(mark):
    """The label of a mark, told by its lower left and its upper right end."""
    _, x, y, wide, high = mark
    return ((x, y), (x + wide, y + high))


def line_met(world, box):
    """The least name of a line that a box meets, None if there is none."""
    met = [line for (line, _), segment in segments_of(world) if box_meets(box, segment)]
    return min(met, default=None)


def node_met(world, box):
    """The least name of a node in a box, None if there is none."""
    met = [name for name, x, y in world[0] if boxes_touch(box, ((x, y), (x, y)))]
    return min(met, default=None)


def mark_met(world, mark):
    """The name of the first other mark in the label of a mark, None if there is none."""
    box = box_of(mark)
    for other in world[2]:
        place = other[1:3]
        if other != mark and boxes_touch(box, (place, place)):
            return other[0]
    return None


def label_met(standing, box):
    """The name of the first mark of those whose labels stand that meets a box, or None."""
    for mark in standing:
        if boxes_touch(box, box_of(mark)):
            return mark[0]
    return None


def first_met(world, mark, standing):
    """What the label of a mark meets first, as (word, name), None if it stands.

    A node is told only where no line is met: so no line ends at it.
    """
    box = box_of(mark)
    for word, name in (
        ("line", line_met(world, box)),
        ("node", node_met(world, box)),
        ("mark", mark_met(world, mark)),
        ("label", label_met(standing, box)),
    ):
        if name is not None:
            return (word, name)
    return None


def set_labels(world):
    """The names of the marks whose labels stand, and the triples of all others."""
    standing, others = [], []
    for mark in world[2]:
        met = first_met(world, mark, standing)
        if met is None:
            standing.append(mark)
        else:
            others.append((mark[0], *met))
    return [mark[0] for mark in standing], others


def runs_of(numbers):
    """The longest runs of ascending numbers, as pairs of their first and last one."""
    runs = []
    for number in numbers:
        if runs and runs[-1][1] == number - 1:
            runs[-1] = (runs[-1][0], number)
        else:
            runs.append((number, number))
    return tuple(runs)


def labels(world):
    """The names of the marks whose labels stand."""
    standing, _ = set_labels(legal_map(world, 0))
    return tuple(standing)


def unset(world):
    """For each mark whose label does not stand (name, word, other): what it meets first."""
    _, others = set_labels(legal_map(world, 0))
    return tuple(others)


def label_stages(world):
    """For each mark (name, spans): the stages of the fade at which its label stands."""
    known = legal_map(world, 0)
    gone, _ = faded(known)
    standing = [set_labels(shown)[0] for shown in maps_while(known, gone)]
    return tuple([
        (mark[0], runs_of([number for number, names in enumerate(standing) if mark[0] in names]))
        for mark in known[2]
    ])
