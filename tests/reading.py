"""A second way to read texts: a pattern for each form, then all rules for numbers and names."""

import re

WORD = r"([a-z]{1,8})"
NUMBER = r"(0|-?[1-9][0-9]*)"
FORMS = (
    ("node", re.compile(" *node" + " +".join(["", WORD, NUMBER, NUMBER]) + " *")),
    (
        "line",
        re.compile(" *line" + " +".join(["", WORD, WORD, WORD]) + "((?: +N +N)*) *".replace("N", NUMBER)),
    ),
    ("mark", re.compile(" *mark" + " +".join(["", WORD] + [NUMBER] * 4) + " *")),
)
BLANK = re.compile(" *")
BOUNDS = {"place": (-(10 ** 9), 10 ** 9), "size": (0, 10 ** 6)}


def within(kind, words):
    """Whether words tell numbers within bounds; long ones are not turned into numbers."""
    low, high = BOUNDS[kind]
    return all(len(word) <= 11 and low <= int(word) <= high for word in words)


def form_of(line):
    """(kind, words) of a line of one of the forms, None for any other."""
    for kind, pattern in FORMS:
        if pattern.fullmatch(line):
            return kind, [word for word in line.split(" ") if word][1:]
    return None


def fits_node(words, found):
    names = [row[0] for row in found["node"]]
    return len(names) < 16 and words[0] not in names and within("place", words[1:])


def fits_line(words, found):
    names = [row[0] for row in found["line"]]
    nodes = [row[0] for row in found["node"]]
    many = [(len(row) - 3) // 2 for row in found["line"] + [words]]
    return (
        len(names) < 16 and words[0] not in names and words[1] != words[2]
        and words[1] in nodes and words[2] in nodes
        and many[-1] <= 12 and sum(many) <= 60 and within("place", words[3:])
    )


def fits_mark(words, found):
    names = [row[0] for row in found["mark"]]
    return (
        len(names) < 10 and words[0] not in names
        and within("place", words[1:3]) and within("size", words[3:])
    )


FITS = {"node": fits_node, "line": fits_line, "mark": fits_mark}
BEHIND = {"node": ("line", "mark"), "line": ("mark",), "mark": ()}


def read(text):
    """The map of a text, or the number of its first wrong line."""
    found = {"node": [], "line": [], "mark": []}
    for at, line in enumerate(text.split("\n")):
        if BLANK.fullmatch(line):
            continue
        form = form_of(line)
        if form is None or any(found[kind] for kind in BEHIND[form[0]]):
            return at
        if not FITS[form[0]](form[1], found):
            return at
        found[form[0]].append(form[1])
    return map_of(found)


def map_of(found):
    """The map of the words of all lines."""
    nodes = tuple((name, int(x), int(y)) for name, x, y in found["node"])
    lines = tuple(
        (name, start, end, tuple(zip(map(int, rest[::2]), map(int, rest[1::2]))))
        for name, start, end, *rest in found["line"]
    )
    return nodes, lines, tuple((row[0], *map(int, row[1:])) for row in found["mark"])
