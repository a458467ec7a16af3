"""Histories: seals that name rows of states, so that each can be halved in one way only."""

from onewatcher.errors import BadRow
from onewatcher.seals import MAX_PART, is_number

MAX_LEVEL = 10

_LENGTHS = (1, 2, 4, 8, 16, 32, 64, 128, 256, 512, 1024)
_SIZES = {"step": 2, "join": 4}


def is_seal(value):
    """True if any value is a number that may be a seal: from 1 to MAX_PART."""
    return is_number(value, MAX_PART) and value != 0


def is_opening(value):
    """True if any value has the form of an opening."""
    if not isinstance(value, tuple) or len(value) == 0 or not isinstance(value[0], str):
        return False
    if _SIZES.get(value[0], 0) != len(value):
        return False
    return all(is_seal(element) for element in value[1:])


def is_join(parts):
    """True for an opening, or None, that is a join."""
    return parts is not None and parts[0] == "join"


def history_of(notary, row):
    """The history of a row of numbers; all its parts are sealed."""
    if len(row) not in _LENGTHS or not all(is_seal(element) for element in row):
        raise BadRow("not a row")
    lasts = list(row)
    histories = [notary.seal(("step", last)) for last in row]
    while len(histories) > 1:
        lasts = lasts[1::2]
        histories = [
            notary.seal(("join", left, right, last))
            for left, right, last in zip(histories[0::2], histories[1::2], lasts)
        ]
    return histories[0]


def opening(notary, history):
    """The opening of any integer, or None."""
    parts = notary.parts_of(history)
    return parts if is_opening(parts) else None


def last_of(notary, history):
    """The last state of a history, or 0 if it has no opening."""
    parts = opening(notary, history)
    return 0 if parts is None else parts[-1]


def _is_joined(notary, history):
    """True if a history opens as a join whose last state is that of its right half."""
    parts = opening(notary, history)
    return is_join(parts) and parts[3] == last_of(notary, parts[2])


def _is_step(notary, history):
    parts = opening(notary, history)
    return parts is not None and parts[0] == "step"


def _all_halves(notary, histories):
    """The list of the halves of histories that all open as joins."""
    halves = []
    for history in histories:
        _, left, right, _ = opening(notary, history)
        halves.append(left)
        halves.append(right)
    return halves


def is_shaped(notary, history, level):
    """True if the shape of a history is right to this level."""
    if not is_number(level, MAX_LEVEL):
        return False
    histories = [history]
    for _ in range(level):
        if not all(_is_joined(notary, part) for part in histories):
            return False
        histories = _all_halves(notary, histories)
    return all(_is_step(notary, part) for part in histories)


def _check_shape(notary, history, level):
    if not is_shaped(notary, history, level):
        raise BadRow("not a history of this level")


def _check_part(level, lower, place):
    if not is_number(level, MAX_LEVEL) or not is_number(lower, level):
        raise BadRow("no such levels")
    if not is_number(place, (1 << level) - 1) or place >> lower << lower != place:
        raise BadRow("no such place")


def part_at(notary, history, level, lower, place):
    """The history of the level `lower` that begins at the place, or 0 if it cannot be reached by openings."""
    _check_part(level, lower, place)
    reached = history
    for height in reversed(range(lower, level)):
        parts = opening(notary, reached)
        if not is_join(parts):
            return 0
        # The bits of the place, from the highest on, say where it lies: 0 is left, 1 is right.
        reached = parts[1] if (place >> height) % 2 == 0 else parts[2]
    return reached


def row_of(notary, history, level):
    """The tuple of the numbers that a history names."""
    _check_shape(notary, history, level)
    histories = [history]
    for _ in range(level):
        histories = _all_halves(notary, histories)
    return tuple(last_of(notary, part) for part in histories)


def first_difference(notary, one, other, level):
    """The least place at which two rows differ, or None if their histories are equal."""
    _check_shape(notary, one, level)
    _check_shape(notary, other, level)
    if one == other:
        return None
    place = 0
    mine = one
    theirs = other
    for height in reversed(range(level)):
        _, left, right, _ = opening(notary, mine)
        _, other_left, other_right, _ = opening(notary, theirs)
        if left != other_left:
            mine = left
            theirs = other_left
        else:
            mine = right
            theirs = other_right
            place += 1 << height
    return place
