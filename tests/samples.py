"""Maps and wrong values that several tests use."""

from cornerfade.errors import BadValue

EMPTY = ((), (), ())

TENT = (
    (("a", 0, 0), ("b", 10, 0)),
    (("rim", "a", "b", ((2, 1), (5, 6), (8, 1))),),
    (("hut", 5, 2, 1, 1),),
)

# A ring of three lines, a ring of one kind within it, a line that ends freely
# within that one, a second ring beside all of it, and nodes without a line.
NESTED = (
    (
        ("a", 0, 0), ("b", 100, 0), ("c", 0, 100),
        ("d", 10, 10), ("e", 40, 10), ("f", 10, 40),
        ("g", 15, 15), ("h", 18, 15),
        ("k", 200, 0), ("l", 220, 0), ("m", 200, 20),
        ("lone", 12, 12), ("far", 500, 500),
    ),
    (
        ("ab", "a", "b", ()), ("bc", "b", "c", ()), ("ca", "c", "a", ()),
        ("de", "d", "e", ()), ("ef", "e", "f", ()), ("df", "d", "f", ()),
        ("free", "g", "h", ((16, 17),)),
        ("kl", "k", "l", ()), ("lm", "l", "m", ()), ("km", "k", "m", ((199, 10),)),
    ),
    (("in", 20, 15, 2, 2), ("between", 5, 5, 0, 0), ("out", -5, 5, 1000000, 3)),
)


def sides(*names):
    """The tuple of sides of an area, from words such as "ab.left"."""
    return tuple(sorted(tuple(name.split(".")) for name in names))


NESTED_INNER = sides("de.left", "ef.left", "df.right", "free.left", "free.right")
NESTED_BETWEEN = sides("ab.left", "bc.left", "ca.left", "de.right", "ef.right", "df.left")
NESTED_BESIDE = sides("kl.left", "lm.left", "km.right")
NESTED_OUTSIDE = sides("ab.right", "bc.right", "ca.right", "kl.right", "lm.right", "km.left")

# A star of eight lines: to the sides, slantwise, and nearly alike.
STAR = (
    (
        ("mid", 0, 0), ("e", 9, 0), ("ne", 7, 7), ("n", 0, 9), ("nw", -7, 7),
        ("w", -9, 0), ("sw", -7, -7), ("s", 0, -9), ("se", 7, -7), ("alone", 90, 90),
    ),
    (
        ("le", "mid", "e", ()), ("lne", "ne", "mid", ()), ("ln", "mid", "n", ()),
        ("lnw", "nw", "mid", ((-5, 8), (-5, 5))), ("lw", "mid", "w", ()),
        ("lsw", "sw", "mid", ()), ("ls", "mid", "s", ()), ("lse", "se", "mid", ()),
    ),
    (),
)

LINE = ((("a", 0, 0), ("b", 10, 0)), (("ab", "a", "b", ()),), ())

LEGAL = (EMPTY, TENT, NESTED, STAR, LINE)


def ring_nodes(prefix, size, at):
    """Three nodes of a ring around (at, at)."""
    return (
        (prefix + "x", at - size, at - size),
        (prefix + "y", at + size, at - size),
        (prefix + "z", at, at + size),
    )


def bent(start, end, bend):
    """Four corners between two places, in a zigzag that strays by bend."""
    (x, y), (u, v) = start, end
    return tuple(
        (x + (u - x) * k // 5, y + (v - y) * k // 5 + (bend if k % 2 else -bend))
        for k in range(1, 5)
    )


def greatest_map(scale=1):
    """16 nodes, 16 lines, 60 corners and 10 marks: five rings within one another."""
    nodes, lines = [], []
    for number, prefix in enumerate("abcde"):
        ring = ring_nodes(prefix, (9 - number) * 100 * scale, 0)
        nodes.extend(ring)
        for k in range(3):
            name, x, y = ring[k]
            other, u, v = ring[(k + 1) % 3]
            lines.append((prefix + "xyz"[k] * 2, name, other, bent((x, y), (u, v), 3 * scale)))
    nodes.append(("tip", 0, 850 * scale))
    lines.append(("spoke", "az", "tip", ()))
    marks = tuple(("mark" + chr(97 + k), (k - 5) * 10 * scale, 0, k, 1000000) for k in range(10))
    return tuple(nodes), tuple(lines), marks


# Values that are no maps whatever stands beside them.
NO_MAPS = (
    None, True, False, 0, 10 ** 30, -(10 ** 30), "", "abc", "map", "\n", (), [], ((),), ((), ()),
    ((), (), (), ()), ["", "", ""], (None, None, None), ((), (), None), ((), (), ""),
    ((), "", ()), ("", (), ()), (0, 0, 0), (True, False, True), "abc" * 5000,
    [[[[[[[[[[[[[[[[[[[[]]]]]]]]]]]]]]]]]]]], [0] * 5000, (((),), (), ()), ((), ((),), ()),
    ((), (), ((),)),
)

TWINS = (
    (("a", 0, 0), ("b", 9, 0)),
    (("one", "a", "b", ((4, 4),)), ("two", "b", "a", ((4, -4),))),
    (),
)
SAME_PLACE = ((("a", 0, 0), ("b", 9, 0)), (), (("m", 9, 0, 1, 1),))
CROSSING = (
    (("a", 0, 0), ("b", 9, 9), ("c", 0, 9), ("d", 9, 0)),
    (("one", "a", "b", ()), ("two", "c", "d", ())),
    (),
)
MARK_ON_LINE = ((("a", 0, 0), ("b", 9, 9)), (("one", "a", "b", ()),), (("m", 3, 3, 0, 0),))
ILLEGAL = (TWINS, SAME_PLACE, CROSSING, MARK_ON_LINE)


def listed(value):
    """The same value with lists for tuples at every level."""
    if isinstance(value, tuple):
        return [listed(part) for part in value]
    return value


def mixed(value, odd=False):
    """The same value with lists for tuples at every other level."""
    if isinstance(value, tuple):
        kind = list if odd else tuple
        return kind(mixed(part, not odd) for part in value)
    return value


def moved(world, factor, right, up):
    """The map with every coordinate multiplied and then shifted."""
    nodes, lines, marks = world
    return (
        tuple((name, x * factor + right, y * factor + up) for name, x, y in nodes),
        tuple(
            (name, start, end, tuple((x * factor + right, y * factor + up) for x, y in corners))
            for name, start, end, corners in lines
        ),
        tuple((name, x * factor + right, y * factor + up, w, h) for name, x, y, w, h in marks),
    )


def is_plain(value):
    """Whether value consists of plain tuples, integers, strings, True, False and None."""
    if type(value) is tuple:
        return all(is_plain(part) for part in value)
    return value is None or type(value) in (int, str, bool)


def bad_value(test, at, call, *args):
    """Asserts that the call raises BadValue(at), and BadValue itself."""
    with test.assertRaises(BadValue) as caught:
        call(*args)
    test.assertIs(type(caught.exception), BadValue)
    test.assertEqual(caught.exception.at, at)
    test.assertIs(type(caught.exception.at), int)


# Values that are no integers, and values that are no names of a line of any map here.
NO_INTEGERS = (True, False, None, "", "0", "1", [], [0], (1,), ((), ()), "a" * 20000)
NO_LINES = (None, True, 0, 1, 10 ** 30, "", "hut", "zz", "Rim", "rim ", [], ["rim"], ("rim",), [[]])


def with_marks(world, *places):
    """The map with marks at these places, and no others."""
    marks = tuple(("m" + chr(97 + k), x, y, 1, 1) for k, (x, y) in enumerate(places))
    return world[0], world[1], marks


def one_line(*places):
    """A map of one line "l" with points at these places."""
    (x, y), (u, v) = places[0], places[-1]
    return (("a", x, y), ("b", u, v)), (("l", "a", "b", tuple(places[1:-1])),), ()


# Its drops have the sizes 0, 20, 52 and 11.
STEPS = one_line((0, 0), (2, 6), (6, 6), (9, 1), (12, 1), (20, 1))


def state(zoom):
    """Everything that a zoom tells."""
    return zoom.here(), zoom.shown(), zoom.scale(), zoom.whole(), len(zoom)
