"""Words, parts, and the notary that gives seals to parts."""

from onewatcher.errors import BadParts

WORD = 4294967296
MAX_PART = 281474976710656

_MAX_ELEMENTS = 16
_MAX_TEXT = 24


def is_number(value, most):
    """True if any value is an integer from 0 to `most`."""
    # For Python, True and False are integers; for this program they are none.
    return isinstance(value, int) and not isinstance(value, bool) and 0 <= value <= most


def is_word(value):
    """True if any value is a word."""
    return is_number(value, WORD - 1)


def _is_text(value):
    return isinstance(value, str) and len(value) <= _MAX_TEXT and all(" " <= sign <= "~" for sign in value)


def is_parts(value):
    """True if any value is parts: what a notary can seal."""
    if not isinstance(value, tuple) or not 1 <= len(value) <= _MAX_ELEMENTS:
        return False
    return all(is_number(element, MAX_PART) or _is_text(element) for element in value)


class Notary:
    """Gives seals to parts: 1, 2, .. in the order in which they are sealed for the first time."""

    def __init__(self):
        self._seals = {}
        self._parts = []
        self._finds = 0

    def seal(self, parts):
        """The seal of parts, which are sealed if they have none."""
        if not is_parts(parts):
            raise BadParts("only parts have seals")
        if parts not in self._seals:
            self._parts.append(parts)
            self._seals[parts] = len(self._parts)
        return self._seals[parts]

    def find(self, parts):
        """The seal of any value, or 0 if it has none; seals nothing."""
        self._finds += 1
        # A key with True in it is equal to one with 1, so only parts are looked up.
        if not is_parts(parts):
            return 0
        return self._seals.get(parts, 0)

    def parts_of(self, seal):
        """The parts with this seal, or None."""
        if not 1 <= seal <= len(self._parts):
            return None
        return self._parts[seal - 1]

    def size(self):
        """How many seals were given."""
        return len(self._parts)

    def finds(self):
        """How often `find` was called."""
        return self._finds
