"""The errors that the program raises."""


class WatchError(ValueError):
    """The base class of all errors of the program."""


class BadParts(WatchError):
    """What should be sealed is not parts."""


class OutOfTree(WatchError):
    """A tree has no such height or index."""


class BadText(WatchError):
    """A text that is refused; `line` is the number of the line at fault, 0 if there is none."""

    def __init__(self, line):
        self.line = line


class BadState(WatchError):
    """Not a state, a program, an input or a level."""


class BadRow(WatchError):
    """Not a row, or not a level, place or history."""


class BadArena(WatchError):
    """Numbers of an arena that are not allowed."""
