"""Slow second answers, found in other ways than the package finds them.

Legality is taken from the definition, over fractions. Areas are found by cutting
the plane into upright slabs between the places of a map, and these into cells.
"""

import random
from fractions import Fraction
from math import atan2, pi

WIDE = 10 ** 12


def paths(world):
    """(line, places of its points) of every line."""
    at = {name: (x, y) for name, x, y in world[0]}
    return [
        (name, [at[start]] + [tuple(corner) for corner in corners] + [at[end]])
        for name, start, end, corners in world[1]
    ]


def segments(world):
    """(line, number, place, place, names of the nodes at its ends) of every segment."""
    found = []
    ends = {line[0]: line[1:3] for line in world[1]}
    for name, path in paths(world):
        last = len(path) - 2
        for k in range(last + 1):
            nodes = set()
            if k == 0:
                nodes.add(ends[name][0])
            if k == last:
                nodes.add(ends[name][1])
            found.append((name, k, path[k], path[k + 1], nodes))
    return found


def points(world):
    """(what tells it, place) of every point of a map."""
    found = [(("node", name), (x, y)) for name, x, y in world[0]]
    for name, _, _, corners in world[1]:
        found += [(("corner", name, k), tuple(corner)) for k, corner in enumerate(corners)]
    return found + [(("mark", mark[0]), tuple(mark[1:3])) for mark in world[2]]


def share_of(place, one, other):
    """How far along one to other a place lies, None if it is not on that segment."""
    (x, y), (a, b), (c, d) = place, one, other
    if (x, y) == (a, b):
        return Fraction(0)
    if (a, b) == (c, d):
        return None
    share = Fraction(x - a, c - a) if a != c else Fraction(y - b, d - b)
    if not 0 <= share <= 1:
        return None
    return share if (a + share * (c - a), b + share * (d - b)) == (x, y) else None


def common(one, other):
    """The ends of what two segments (place, place) have in common; one place if it is one."""
    (a, b), (c, d) = one
    (e, f), (g, h) = other
    across = (c - a) * (h - f) - (d - b) * (g - e)
    if across == 0:
        ends = [p for p in one if share_of(p, *other) is not None]
        ends += [p for p in other if share_of(p, *one) is not None]
        return sorted(set(ends))
    s = Fraction((e - a) * (h - f) - (f - b) * (g - e), across)
    t = Fraction((e - a) * (d - b) - (f - b) * (c - a), across)
    if 0 <= s <= 1 and 0 <= t <= 1:
        return [(a + s * (c - a), b + s * (d - b))]
    return []


def meet_wrongly(world, one, other):
    """Whether two different segments, as of segments(world), meet though they may not."""
    at = {name: (x, y) for name, x, y in world[0]}
    shared = common(one[2:4], other[2:4])
    if not shared:
        return False
    allowed = [at[name] for name in one[4] & other[4]]
    if one[0] == other[0] and abs(one[1] - other[1]) == 1:
        allowed.append(one[3] if one[1] < other[1] else one[2])
    return len(shared) > 1 or shared[0] not in allowed


def on_wrongly(world, told, place, segment):
    """Whether a node or mark lies on a segment of which it is no end."""
    if told[0] == "node" and told[1] in segment[4]:
        return False
    return share_of(place, segment[2], segment[3]) is not None


def faults(world):
    """All faults of a map, as `fault` may tell them, each pair in both sequences."""
    found = []
    for kind, rows, wrong in (
        ("twins", world[1], lambda one, other: set(one[1:3]) == set(other[1:3])),
        ("place", points(world), lambda one, other: one[1] == other[1]),
        ("meet", segments(world), lambda one, other: meet_wrongly(world, one, other)),
    ):
        cut = 2 if kind == "meet" else 1
        for k, one in enumerate(rows):
            for other in rows[k + 1:]:
                if wrong(one, other):
                    first, second = (one[:2], other[:2]) if cut == 2 else (one[0], other[0])
                    found += [(kind, first, second), (kind, second, first)]
    for told, place in points(world):
        if told[0] != "corner":
            for segment in segments(world):
                if on_wrongly(world, told, place, segment):
                    found.append(("on", told, segment[:2]))
    return found


def height(segment, x):
    """How high an oblique segment, running to greater x, is at x."""
    (a, b), (c, d) = segment
    return b + Fraction((x - a) * (d - b), c - a)


class Cells:
    """The plane cut into cells between the segments of a legal map."""

    def __init__(self, world):
        self.upright = []
        self.oblique = []
        for name, _, one, other, _ in segments(world):
            forth = one < other
            low, high = (one, other) if forth else (other, one)
            row = (low, high, name, forth)
            (self.upright if low[0] == high[0] else self.oblique).append(row)
        seen = sorted({x for _, (x, _) in points(world)} | {-WIDE, WIDE})
        self.cuts = seen
        self.slabs = [self.slab(left, right) for left, right in zip(seen, seen[1:])]
        self.cells = [(k, n) for k, rows in enumerate(self.slabs) for n in range(len(rows) + 1)]
        self.leader = {cell: cell for cell in self.cells}
        for k in range(1, len(self.slabs)):
            self.join(k)

    def slab(self, left, right):
        """The oblique segments through a slab, from below upwards."""
        middle = Fraction(left + right, 2)
        rows = [row for row in self.oblique if row[0][0] <= left and row[1][0] >= right]
        return sorted(rows, key=lambda row: height(row[:2], middle))

    def top(self, cell, x):
        """How high the cell reaches at x."""
        k, n = cell
        return WIDE if n == len(self.slabs[k]) else height(self.slabs[k][n][:2], x)

    def bottom(self, cell, x):
        """How low the cell reaches at x."""
        k, n = cell
        return -WIDE if n == 0 else height(self.slabs[k][n - 1][:2], x)

    def find(self, cell):
        """The cell that stands for the whole area of a cell."""
        while self.leader[cell] != cell:
            cell = self.leader[cell]
        return cell

    def join(self, k):
        """Joins the cells left and right of the cut k where no upright segment parts them."""
        x = self.cuts[k]
        walls = [(row[0][1], row[1][1]) for row in self.upright if row[0][0] == x]
        for n in range(len(self.slabs[k - 1]) + 1):
            for m in range(len(self.slabs[k]) + 1):
                one, other = (k - 1, n), (k, m)
                low = max(self.bottom(one, x), self.bottom(other, x))
                high = min(self.top(one, x), self.top(other, x))
                if self.open_between(low, high, walls):
                    self.leader[self.find(one)] = self.find(other)

    def open_between(self, low, high, walls):
        """Whether something from low to high is left beside the walls."""
        for start, end in sorted(walls):
            if low < min(start, high):
                return True
            low = max(low, end)
        return low < high

    def borders(self):
        """The sides that border each area, by the cell that stands for it."""
        found = {self.find(cell): set() for cell in self.cells}
        for k, rows in enumerate(self.slabs):
            for n, (_, _, name, forth) in enumerate(rows):
                found[self.find((k, n))].add((name, "right" if forth else "left"))
                found[self.find((k, n + 1))].add((name, "left" if forth else "right"))
        for low, high, name, forth in self.upright:
            k = self.cuts.index(low[0])
            for cell in self.cells:
                if cell[0] in (k - 1, k):
                    inner = max(low[1], self.bottom(cell, low[0]))
                    if inner < min(high[1], self.top(cell, low[0])):
                        at_left = cell[0] == k - 1
                        found[self.find(cell)].add((name, "left" if at_left == forth else "right"))
        return {cell: tuple(sorted(sides)) for cell, sides in found.items()}

    def sizes(self):
        """Twice the size of each area, None for the one without a bound."""
        found = {self.find(cell): Fraction(0) for cell in self.cells}
        for cell in self.cells:
            left, right = self.cuts[cell[0]], self.cuts[cell[0] + 1]
            for x in (left, right):
                found[self.find(cell)] += (self.top(cell, x) - self.bottom(cell, x)) * (right - left)
        found[self.find(self.cells[0])] = None
        return found

    def areas(self):
        """{sides: twice the size} of all areas."""
        sizes = self.sizes()
        return {sides: sizes[cell] for cell, sides in self.borders().items()}

    def at(self, place, borders):
        """The sides of the area of a place, which is on no line."""
        x, y = place
        for cell in self.cells:
            left, right = self.cuts[cell[0]], self.cuts[cell[0] + 1]
            # On a cut a place may lie right between two cells: any cell that it borders on
            # is of its area, for it lies on no segment.
            if left <= x <= right and self.bottom(cell, x) <= y <= self.top(cell, x):
                if self.bottom(cell, x) < y < self.top(cell, x):
                    return borders[self.find(cell)]
        raise AssertionError("a place of no cell")


def turn(world, name):
    """The lines that leave a node; for small coordinates."""
    found = []
    for (line, path), (_, start, end, _) in zip(paths(world), world[1]):
        if name in (start, end):
            here, ahead = (path[0], path[1]) if name == start else (path[-1], path[-2])
            found.append((line, atan2(ahead[1] - here[1], ahead[0] - here[0])))
    if not found:
        return ()
    base = min(found)[1]
    return tuple(line for line, angle in sorted(found, key=lambda row: (row[1] - base) % (2 * pi)))


def pieces(world):
    """The number of pieces, by walking from node to node."""
    left = {node[0] for node in world[0]}
    count = 0
    while left:
        count += 1
        ahead = [left.pop()]
        while ahead:
            name = ahead.pop()
            for _, start, end, _ in world[1]:
                for there in {start, end} if name in (start, end) else ():
                    if there in left:
                        left.remove(there)
                        ahead.append(there)
    return count


def random_map(seed, width, want=6):
    """A map of few points on a small grid, mostly not legal."""
    draw = random.Random(seed)

    def place():
        return draw.randrange(width), draw.randrange(width)

    nodes = tuple((name, *place()) for name in "abcdefghijkl"[:draw.randrange(2, want + 2)])
    lines = []
    for k in range(draw.randrange(want)):
        start, end = draw.sample([node[0] for node in nodes], 2)
        lines.append(("l" + "abcdefgh"[k], start, end, tuple(place() for _ in range(draw.randrange(3)))))
    marks = tuple(("m" + "abc"[k], *place(), k, k) for k in range(draw.randrange(3)))
    return nodes, tuple(lines), marks


def random_legal_map(seed, width, tries=60):
    """A legal map that grows point by point and line by line on a small grid."""
    draw = random.Random(seed)
    world = ((), (), ())

    def place():
        return draw.randrange(width), draw.randrange(width)

    for _ in range(tries):
        nodes, lines, marks = world
        kind = draw.choice("nnlllllm")
        if kind == "n" and len(nodes) < 12:
            nodes += (("n" + chr(97 + len(nodes)), *place()),)
        if kind == "m" and len(marks) < 6:
            marks += (("m" + chr(97 + len(marks)), *place(), 1, 1),)
        if kind == "l" and len(lines) < 12 and len(nodes) > 1:
            start, end = draw.sample([node[0] for node in nodes], 2)
            corners = tuple(place() for _ in range(draw.choice((0, 0, 0, 1, 1, 2))))
            lines += (("l" + chr(97 + len(lines)), start, end, corners),)
        if not faults((nodes, lines, marks)):
            world = (nodes, lines, marks)
    return world
