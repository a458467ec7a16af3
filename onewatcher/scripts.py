"""Acts, and scripts: texts with one act a line."""

from onewatcher.errors import BadText
from onewatcher.forms import has_parts, word_of
from onewatcher.seals import MAX_PART
from onewatcher.texts import is_name, number_in

# The kinds of the parts behind the word of each act.
_FORMS = {
    "send": ("name", "any"),
    "lie": ("name", "integer", "integer", "integer"),
    "forge": ("name", "integer", "integer"),
    "cut": ("name",),
    "paper": ("name",),
    "gather": ("name",),
    "block": ("integers",),
    "back": ("integer",),
}

# What a player does in a line: how many integers follow, and the word of the act or, for those that are sent, the deed.
_COUNTS = {"puts": 2, "asks": 0, "lies": 3, "forges": 2, "cuts": 0, "papers": 0, "gathers": 0}
_SENT = {"puts": "put", "asks": "ask"}
_DONE = {"lies": "lie", "forges": "forge", "cuts": "cut", "papers": "paper", "gathers": "gather"}


def is_act(value):
    """True if any value has the form of an act."""
    return has_parts(value, _FORMS.get(word_of(value), None))


def _act_of_player(name, verb, numbers):
    if not is_name(name) or len(numbers) != _COUNTS[verb]:
        return None
    if verb in _SENT:
        return ("send", name, (_SENT[verb], *numbers))
    return (_DONE[verb], name, *numbers)


def _read_line(line):
    """The act of a line, or None if it has none of the forms."""
    words = line.split(" ")
    # A player may be called block or back, so the second word is looked at first.
    is_played = len(words) > 1 and words[1] in _COUNTS
    numbers = [number_in(word, MAX_PART) for word in words[2 if is_played else 1:]]
    if None in numbers:
        return None
    if is_played:
        return _act_of_player(words[0], words[1], numbers)
    if words[0] == "block":
        return ("block", tuple(numbers))
    if words[0] == "back" and len(numbers) == 1:
        return ("back", numbers[0])
    return None


def read_script(text):
    """The tuple of the acts of a script."""
    acts = []
    if text == "":
        return ()
    for number, line in enumerate(text.split("\n"), start=1):
        act = _read_line(line)
        if act is None:
            raise BadText(number)
        acts.append(act)
    return tuple(acts)


def _words_of_act(act):
    """The words of the line of an act, with the integers as they are."""
    if act[0] == "block":
        return ["block", *act[1]]
    if act[0] == "back":
        return ["back", act[1]]
    if act[0] == "send":
        _, name, deed = act
        verbs = [verb for verb, word in _SENT.items() if word == deed[0]]
        return [name, verbs[0], *deed[1:]]
    verbs = [verb for verb, word in _DONE.items() if word == act[0]]
    return [act[1], verbs[0], *act[2:]]


def print_script(acts):
    """The text of a tuple of acts that have lines."""
    return "\n".join([" ".join([str(word) for word in _words_of_act(act)]) for act in acts])
