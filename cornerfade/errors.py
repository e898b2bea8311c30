"""The errors that the functions of the package raise."""


class MapError(Exception):
    """The base class of all errors of the package."""


class BadValue(MapError):
    """An argument is not as described; at is its position, from 0 on."""

    def __init__(self, at):
        self.at = at


class BadText(MapError):
    """A text is not the text of a map; at is the number of its first wrong line."""

    def __init__(self, at):
        self.at = at


class BadLevels(MapError):
    """Levels do not hold; at is the number of the first point that shows it."""

    def __init__(self, at):
        self.at = at


class CannotDrop(MapError):
    """A corner cannot be dropped; point is the place of a point that bars it."""

    def __init__(self, point):
        self.point = point


class NoStage(MapError):
    """There is no stage with this number."""

    def __init__(self, number):
        self.number = number


class NotLegal(MapError):
    """The map would not be legal."""
