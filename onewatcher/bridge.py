"""The bridge: players put money and words into it, arenas settle its questions, and it pays what a run has written."""

from onewatcher.arena import Arena
from onewatcher.errors import BadState
from onewatcher.forms import has_parts, word_of
from onewatcher.histories import MAX_LEVEL
from onewatcher.machine import STOPPED, first_state, is_program
from onewatcher.seals import is_number
from onewatcher.states import question

_VAULT = "vault"
_MAX_ENTRIES = 21

# The kinds of the parts behind the word of each deed.
_FORMS = {
    "put": ("amount", "word"),
    "ask": (),
    "arena": ("integer", "any"),
    "pay": ("opening", "fields", "words"),
}


def input_of(entries):
    """The tuple of the words of entries, in order."""
    words = []
    for entry in entries:
        words.extend(entry)
    return tuple(words)


def _total(entries):
    return sum(amount for _, amount, _ in entries)


def payments(members, rest, entries, status, words):
    """The tuple of the (name, amount) that a question with these entries pays, and the new rest."""
    if status != STOPPED or len(words) % 2 != 0:
        return tuple((members[number], amount) for number, amount, _ in entries), rest
    left = rest + _total(entries)
    paid = []
    for number, amount in zip(words[0::2], words[1::2]):
        if number < len(members):
            part = min(amount, left)
            left -= part
            paid.append((members[number], part))
    return tuple(paid), left


class Bridge:
    """A contract: entries wait in an inbox until they are asked about; an arena tells what their run has written."""

    def __init__(self, notary, program, members, level, needed, root_stake, half_stake, window):
        if not is_program(program) or not is_number(level, MAX_LEVEL):
            raise BadState("not a program and a level")
        self._notary = notary
        self._program = program
        self._members = members
        self._level = level
        # An arena without a question checks and keeps the numbers of all arenas.
        self._blank = Arena(notary, (), 0, needed, root_stake, half_stake, window)
        self._inbox = []
        self._rest = 0
        # The entries and the arenas of all questions in order. Only the last one may be unpaid.
        self._entries = []
        self._arenas = []
        self._paid = 0

    def apply(self, sender, deed, height, accounts):
        """Handle a deed, which may be any value; returns the answer."""
        if not has_parts(deed, _FORMS.get(word_of(deed), None)):
            return "bad"
        word = deed[0]
        if word == "put":
            return self._put(deed, sender, accounts)
        if word == "ask":
            return self._ask(height)
        if word == "arena":
            return self._hand_on(deed, sender, height, accounts)
        return self._pay(deed, accounts)

    def _put(self, deed, sender, accounts):
        _, amount, note = deed
        if sender not in self._members:
            return "stranger"
        if len(self._inbox) >= _MAX_ENTRIES:
            return "full"
        if not accounts.move(sender, _VAULT, amount):
            return "poor"
        self._inbox.append((self._members.index(sender), amount, note))
        return "ok"

    def _ask(self, height):
        if self.open_number() != 0:
            return "open"
        if len(self._inbox) == 0:
            return "empty"
        entries = tuple(self._inbox)
        asked = question(self._notary, self._program, input_of(entries), first_state(), self._level)
        self._entries.append(entries)
        self._arenas.append(self._blank.opened_for(asked, height))
        self._inbox = []
        return "ok"

    def _is_asked(self, number):
        return 1 <= number <= len(self._arenas)

    def _hand_on(self, deed, sender, height, accounts):
        _, number, inner = deed
        if not self._is_asked(number):
            return "none"
        return self._arenas[number - 1].apply(sender, inner, height, accounts, f"purse{number}")

    def _is_chain(self, chain, words):
        """True if the written chain of the words is there, and is this number."""
        reached = 0
        for word in words:
            reached = self._notary.find(("wrote", reached, word))
            # Anybody may seal ("wrote", 0, ..), so a missing seal must not lead on.
            if reached == 0:
                return False
        return reached == chain

    def _pay(self, deed, accounts):
        _, opening, fields, words = deed
        number = self.open_number()
        if number == 0:
            return "none"
        confirmed = self._arenas[number - 1].confirmed()
        if confirmed is None:
            return "early"
        if self._notary.find(opening) != confirmed[4]:
            return "wrong"
        if self._notary.find(("state",) + fields) != opening[-1]:
            return "fields"
        if not self._is_chain(fields[7], words):
            return "words"
        paid, self._rest = payments(self._members, self._rest, self._entries[number - 1], fields[8], words)
        for name, amount in paid:
            accounts.move(_VAULT, name, amount)
        self._paid = number
        return "ok"

    def copy(self):
        """An independent bridge that is equal, with the same notary."""
        blank = self._blank
        other = Bridge(self._notary, self._program, self._members, self._level, blank.needed(), blank.root_stake(),
                       blank.half_stake(), blank.window())
        other._inbox = list(self._inbox)
        other._rest = self._rest
        other._entries = list(self._entries)
        other._arenas = [arena.copy() for arena in self._arenas]
        other._paid = self._paid
        return other

    def inbox(self):
        """The list of the entries that no question has taken."""
        return list(self._inbox)

    def rest(self):
        """What earlier questions have left."""
        return self._rest

    def number(self):
        """How many questions were asked."""
        return len(self._arenas)

    def open_number(self):
        """The number of the open question, or 0 if none is open."""
        return self.number() if self._paid < self.number() else 0

    def entries(self, number):
        """The tuple of the entries of a question, or None if there is no such question."""
        return self._entries[number - 1] if self._is_asked(number) else None

    def arena(self, number):
        """A copy of the arena of a question, or None if there is no such question."""
        return self._arenas[number - 1].copy() if self._is_asked(number) else None

    def is_paid(self, number):
        """True if there is such a question and it was paid."""
        return 1 <= number <= self._paid

    def program(self):
        """The program whose runs the bridge asks about."""
        return self._program

    def members(self):
        """The tuple of the members' names."""
        return self._members

    def level(self):
        """The level of the questions."""
        return self._level

    def window(self):
        """The window of the arenas."""
        return self._blank.window()
