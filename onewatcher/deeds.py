"""The forms of the deeds that an arena handles."""

from onewatcher.histories import is_opening, is_seal
from onewatcher.spans import is_span

# The kinds of the parts behind the word of each deed.
_FORMS = {
    "claim": ("seal",),
    "halve": ("span", "opening", "opening", "opening"),
    "paper": ("span", "seal", "any"),
    "gather": ("span",),
    "close": ("span",),
    "show": ("span", "openings"),
    "share": (),
}


def _is_part(kind, value):
    if kind == "seal":
        return is_seal(value)
    if kind == "span":
        return is_span(value)
    if kind == "opening":
        return is_opening(value)
    if kind == "openings":
        return isinstance(value, tuple) and all(is_opening(part) for part in value)
    return True


def is_deed(value):
    """True if any value has the form of a deed."""
    if not isinstance(value, tuple) or len(value) == 0 or not isinstance(value[0], str):
        return False
    if value[0] not in _FORMS:
        return False
    kinds = _FORMS[value[0]]
    if len(value) != len(kinds) + 1:
        return False
    return all(_is_part(kind, part) for kind, part in zip(kinds, value[1:]))
