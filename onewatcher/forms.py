"""The forms of tuples that begin with a word: which parts stand behind each word."""

from onewatcher.histories import is_opening, is_seal
from onewatcher.seals import MAX_PART, is_number, is_word
from onewatcher.spans import is_span
from onewatcher.texts import is_name

_FIELDS = 9
_MAX_WORDS = 1024


def _is_integer(value):
    # For Python, True and False are integers; for this program they are none.
    return isinstance(value, int) and not isinstance(value, bool)


def _is_row(kind, value):
    return isinstance(value, tuple) and all(_is_part(kind, part) for part in value)


def _is_part_of_run(kind, value):
    if kind == "seal":
        return is_seal(value)
    if kind == "span":
        return is_span(value)
    if kind == "opening":
        return is_opening(value)
    if kind == "openings":
        return _is_row("opening", value)
    if kind == "fields":
        return _is_row("field", value) and len(value) == _FIELDS
    return is_number(value, MAX_PART)


def _is_part(kind, value):
    """True if any value is of the kind."""
    if kind == "any":
        return True
    if kind == "name":
        return isinstance(value, str) and is_name(value)
    if kind == "integer":
        return _is_integer(value)
    if kind == "integers":
        return _is_row("integer", value)
    if kind == "word":
        return is_word(value)
    if kind == "amount":
        return is_word(value) and value != 0
    if kind == "words":
        return _is_row("word", value) and len(value) <= _MAX_WORDS
    return _is_part_of_run(kind, value)


def word_of(value):
    """The word with which any value begins, or the empty text if it is no tuple that begins with a text."""
    if isinstance(value, tuple) and len(value) > 0 and isinstance(value[0], str):
        return value[0]
    return ""


def has_parts(value, kinds):
    """True if the parts behind the word of a value are of these kinds; kinds are None for an unknown word."""
    if kinds is None or len(value) != len(kinds) + 1:
        return False
    return all(_is_part(kind, part) for kind, part in zip(kinds, value[1:]))
