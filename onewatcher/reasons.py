"""Reasons: why the count of a posted span is at least a number."""

from onewatcher.seals import is_number
from onewatcher.spans import is_span


def full_reason(arena, span, height):
    """The reason of a posted span with the greatest numbers; its worth is the count."""
    own = arena.own(span, height)
    if arena.is_settled(span):
        return ("step", span)
    if arena.is_halved(span):
        left, right = arena.halves(span)
        return ("half", span, own, full_reason(arena, left, height), full_reason(arena, right, height))
    return ("own", span, own)


def _worth_of_halves(arena, span, height, reasons):
    """The lesser of the worths of the reasons of both halves, or None if one of them is not right."""
    worths = [worth(arena, half, height, reason) for half, reason in zip(arena.halves(span), reasons)]
    return None if None in worths else min(worths)


def worth(arena, span, height, reason):
    """The worth of a right reason, which may be any value; None if it is not right, or the span is not posted."""
    if not arena.is_posted(span) or not isinstance(reason, tuple) or len(reason) < 2:
        return None
    word = reason[0]
    # For Python, True is equal to 1, but a tuple with it is no span.
    if not is_span(reason[1]) or reason[1] != span:
        return None
    if word == "step" and len(reason) == 2:
        return arena.needed() if arena.is_settled(span) else None
    if len(reason) < 3 or not is_number(reason[2], arena.own(span, height)):
        return None
    if word == "own" and len(reason) == 3:
        return min(arena.needed(), reason[2])
    if word != "half" or len(reason) != 5 or not arena.is_halved(span):
        return None
    added = _worth_of_halves(arena, span, height, reason[3:])
    return None if added is None else min(arena.needed(), reason[2] + added)
