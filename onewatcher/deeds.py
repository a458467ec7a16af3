"""The deeds that an arena handles: their forms, and how a halving is made."""

from onewatcher.forms import has_parts, word_of
from onewatcher.histories import is_join, opening

# The kinds of the parts behind the word of each deed.
_FORMS = {
    "claim": ("seal",),
    "halve": ("span", "opening", "opening", "opening"),
    "paper": ("span", "seal", "any"),
    "gather": ("span",),
    "close": ("span",),
    "show": ("span", "openings"),
    "share": (),
}


def is_deed(value):
    """True if any value has the form of a deed."""
    return has_parts(value, _FORMS.get(word_of(value), None))


def _fits(parts, level):
    """True for the opening of a history of this level: a step at level 0, a join above."""
    return parts is not None and is_join(parts) == (level > 0)


def halving_of(notary, span):
    """The deed that halves a span, or None if its history or one of the parts does not open as its level asks."""
    level, _, _, _, history = span
    join = opening(notary, history)
    if level == 0 or not is_join(join):
        return None
    left = opening(notary, join[1])
    right = opening(notary, join[2])
    if not _fits(left, level - 1) or not _fits(right, level - 1):
        return None
    return ("halve", span, join, left, right)
