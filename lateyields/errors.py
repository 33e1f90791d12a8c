"""The exceptions of the package."""

from lateyields.copies import copy_of

_SHOWN = 60
_GREAT = 1000000000


def _shown(value):
    """The value in a message: only plain ones, since any other may be unable to tell its text."""
    if isinstance(value, str):
        return value[:_SHOWN]
    if isinstance(value, int) and -_GREAT < value < _GREAT:
        return str(value)
    return "..."


class LateError(ValueError):
    """Any failure of this package, except for names that are not there."""


class BadRow(LateError):
    """A row that does not fit, or stands where it may not."""

    def __init__(self, at):
        super().__init__(f"no row that may stand there: {_shown(at)}")
        self.at = copy_of(at)


class TooMany(LateError):
    """A program with more rows, jobs, walks or blocks within one another than there may be."""

    def __init__(self, word):
        super().__init__(f"too many: {_shown(word)}")
        self.word = copy_of(word)


class TooLong(LateError):
    """A program that carries out too many rows."""

    def __init__(self):
        super().__init__("too many rows are carried out")


class TooWide(LateError):
    """A net with too many cuts or states."""

    def __init__(self):
        super().__init__("too many cuts or states")


class NotReady(LateError):
    """An event that cannot come now."""

    def __init__(self, event):
        super().__init__(f"not ready: {_shown(event)}")
        self.event = copy_of(event)


class NoSchedule(LateError):
    """What is no schedule, with the place at which it fails."""

    def __init__(self, at):
        super().__init__(f"no schedule: {_shown(at)}")
        self.at = copy_of(at)


class Never(LateError):
    """An event that never comes."""

    def __init__(self, event):
        super().__init__(f"never comes: {_shown(event)}")
        self.event = copy_of(event)


class NoCut(LateError):
    """Events that are no cut, with the least one that could not come."""

    def __init__(self, event):
        super().__init__(f"no cut: {_shown(event)}")
        self.event = copy_of(event)


class OtherNet(LateError):
    """Cuts of unlike nets."""

    def __init__(self):
        super().__init__("the nets are not equal")


class Taken(LateError):
    """An event that both nets have."""

    def __init__(self, name):
        super().__init__(f"both nets have it: {_shown(name)}")
        self.name = copy_of(name)


class NoCommand(LateError):
    """What is no command, or cannot be put on a shelf."""

    def __init__(self, row):
        super().__init__(f"no command: {_shown(row)}")
        self.row = copy_of(row)


class Unknown(KeyError):
    """An event or a name that is not there."""

    def __init__(self, name):
        super().__init__(f"unknown: {_shown(name)}")
        self.name = copy_of(name)
