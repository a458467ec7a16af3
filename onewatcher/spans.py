"""Spans: claims about a part of a run, each with all that is claimed ahead of it."""

from onewatcher.histories import MAX_LEVEL, is_join, is_seal, last_of, opening
from onewatcher.seals import MAX_PART, is_number

_PARTS = 5
_MAX_FIRST = 1023


def is_span(value):
    """True if any value has the form of a span."""
    if not isinstance(value, tuple) or len(value) != _PARTS:
        return False
    level, first, before, start, history = value
    if not is_number(level, MAX_LEVEL) or not is_number(first, _MAX_FIRST):
        return False
    return is_number(before, MAX_PART) and is_seal(start) and is_seal(history)


def root_span(question, history):
    """The root span of a question with this history."""
    _, _, _, _, start, level = question
    return (level, 0, 0, start, history)


def split_span(span, join, behind, middle):
    """The halves of a span: `behind` is the seal of all ahead of the right one, `middle` the state ahead of it."""
    level, first, before, start, _ = span
    _, left, right, _ = join
    half = 1 << (level - 1)
    return (level - 1, first, before, start, left), (level - 1, first + half, behind, middle, right)


def halves_of(notary, span):
    """The pair of the halves of a span, or None if something that they need is missing; seals nothing."""
    level, _, before, _, history = span
    join = opening(notary, history)
    if level == 0 or not is_join(join):
        return None
    middle = last_of(notary, join[1])
    behind = notary.find(("behind", before, join[1]))
    if middle == 0 or behind == 0:
        return None
    return split_span(span, join, behind, middle)


def seal_halves(notary, top):
    """Seal what the halves of a span and of all halves below need; returns the lists of the spans of each level."""
    rows = [[top]]
    for _ in range(top[0]):
        row = []
        for span in rows[-1]:
            join = opening(notary, span[4])
            if is_join(join):
                notary.seal(("behind", span[2], join[1]))
            halves = halves_of(notary, span)
            if halves is not None:
                row.extend(halves)
        rows.append(row)
    return rows


def are_rivals(one, other):
    """True if two spans differ in the history alone."""
    return one[:4] == other[:4] and one[4] != other[4]


def is_reached(notary, top, joins, span):
    """True if the openings `joins` lead from the span `top` down to a span; seals nothing."""
    level, first, before, _, history = top
    if len(joins) != level - span[0]:
        return False
    for join in joins:
        if not is_join(join) or notary.find(join) != history:
            return False
        _, left, right, _ = join
        level -= 1
        history = left
        if span[1] >= first + (1 << level):
            first += 1 << level
            before = notary.find(("behind", before, left))
            history = right
            # Anybody may seal ("behind", 0, ..), so a missing seal must not lead on.
            if before == 0:
                return False
    return (first, before, history) == (span[1], span[2], span[4])
