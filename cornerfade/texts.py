"""Texts of maps: a line for every node, line and mark."""

from cornerfade.errors import BadText, BadValue
from cornerfade.maps import is_map

KINDS = ("node", "line", "mark")
DIGITS = "0123456789"
# As many as FARTHEST has, the greatest number that a map may have.
MOST_DIGITS = 10


def words_of(world):
    """The words of each line of a map's text, in their sequence."""
    nodes, lines, marks = world
    flat = [
        (name, start, end, *[part for corner in corners for part in corner])
        for name, start, end, corners in lines
    ]
    return [
        (kind, *[str(part) for part in row])
        for kind, rows in zip(KINDS, (nodes, flat, marks))
        for row in rows
    ]


def printed(world):
    """The text of a map, legal or not."""
    if not is_map(world):
        raise BadValue(0)
    return "".join([" ".join(words) + "\n" for words in words_of(world)])


def number_told(word):
    """The integer that a word of a text tells, None if it is none that a map may have."""
    digits = word.removeprefix("-")
    if not 1 <= len(digits) <= MOST_DIGITS or not all([sign in DIGITS for sign in digits]):
        return None
    number = int(word)
    # Python reads leading zeros and -0, too; a text has each number in one way alone.
    return number if str(number) == word else None


def row_told(words):
    """The row of a node, line or mark that words tell, which is_map judges."""
    if words[0] != "line":
        return (*words[1:2], *[number_told(word) for word in words[2:]])
    numbers = [number_told(word) for word in words[4:]]
    # A coordinate without a second one makes a corner that is no place.
    corners = [tuple(numbers[at:at + 2]) for at in range(0, len(numbers), 2)]
    return (*words[1:4], tuple(corners))


def with_words(world, words):
    """The map with what a line of words tells behind the rest, None if it may not stand there."""
    if words[0] not in KINDS:
        return None
    at = KINDS.index(words[0])
    if any([len(rows) > 0 for rows in world[at + 1:]]):
        return None
    longer = (*world[:at], (*world[at], row_told(words)), *world[at + 1:])
    return longer if is_map(longer) else None


def parse(text):
    """The map of a text."""
    if not isinstance(text, str):
        raise BadText(0)
    world = ((), (), ())
    for at, line in enumerate(text.split("\n")):
        words = [word for word in line.split(" ") if word]
        if words:
            world = with_words(world, words)
        if world is None:
            raise BadText(at)
    return world
