"""The world: a ledger with a bridge, one watcher that keeps the rules, and players that do what a script says."""

from onewatcher.accounts import Accounts
from onewatcher.bridge import Bridge
from onewatcher.ledger import Ledger
from onewatcher.lies import forged_row, lied_states, seal_row
from onewatcher.machine import REGISTERS
from onewatcher.players import cuts, gathers, papers
from onewatcher.scripts import is_act
from onewatcher.seals import MAX_PART, Notary, is_number, is_word
from onewatcher.states import state_seals
from onewatcher.watcher import Watcher


def _is_same(one, other):
    """True if two values are the same; for Python, True is equal to 1."""
    return one == other and repr(one) == repr(other)


class World:
    """Does acts one by one; the watcher looks at the chain whenever it has changed."""

    def __init__(self, program, members, amounts, level, needed, root_stake, half_stake, window, patience, watcher):
        self._notary = Notary()
        bridge = Bridge(self._notary, program, members, level, needed, root_stake, half_stake, window)
        self._ledger = Ledger(bridge, Accounts(amounts), patience)
        self._name = watcher
        self._watcher = Watcher(self._notary, watcher)
        # The number and entries of the question of each lie, and the seals and states of its run.
        # Turning back does not undo that a state was met.
        self._lies = []
        self._look()

    def _look(self):
        """The watcher sends each deed that it wants, unless a letter of it with this deed is in the pool."""
        waiting = [deed for (_, sender, deed), _ in self._ledger.pool() if sender == self._name]
        for deed in self._watcher.deeds(self._ledger.contract(), self._ledger.head()):
            if not any([_is_same(deed, other) for other in waiting]):
                self._ledger.send(self._name, deed)

    def act(self, act):
        """Do an act; returns the answers of a block, otherwise the empty tuple."""
        if not is_act(act):
            return ()
        if act[0] == "block":
            answers = self._ledger.add_block(act[1])
            self._look()
            return answers
        if act[0] == "back":
            if self._ledger.turn_back(act[1]):
                self._look()
        elif act[1] != self._name:
            for deed in self._deeds_of(act):
                self._ledger.send(act[1], deed)
        return ()

    def play(self, acts):
        """Do the acts of a tuple in order."""
        for act in acts:
            self.act(act)

    def _deeds_of(self, act):
        """The list of the deeds that a player sends in an act."""
        if act[0] == "send":
            return [act[2]]
        bridge = self._ledger.contract()
        number = bridge.open_number()
        if number == 0:
            return []
        return [("arena", number, deed) for deed in self._deeds_for(act, bridge, number)]

    def _deeds_for(self, act, bridge, number):
        """The list of the deeds for the arena of the open question."""
        run = self._watcher.truth(bridge, number).run()
        if act[0] == "lie":
            return self._lie(act, bridge, run)
        if act[0] == "forge":
            return self._forge(act, run)
        arena = bridge.arena(number)
        if act[0] == "cut":
            return cuts(self._notary, arena)
        if act[0] == "paper":
            return papers(self._notary, arena, run, self._met(bridge, run))
        return gathers(arena, self._ledger.head())

    def _lie(self, act, bridge, run):
        _, _, at, spot, word = act
        last = len(run.seals()) - 1
        if not is_number(at, last) or not is_number(spot, REGISTERS - 1) or not is_word(word):
            return []
        plain = tuple([run.state_at(n) for n in range(1, last + 2)])
        states = lied_states(run.program(), run.words(), plain, at, spot, word)
        row = state_seals(self._notary, states)
        number = bridge.number()
        self._lies.append((number, bridge.entries(number), row, states))
        return [("claim", seal_row(self._notary, run.question(), row))]

    def _forge(self, act, run):
        _, _, at, number = act
        row = run.seals()
        if not is_number(at, len(row) - 1) or not is_number(number, MAX_PART):
            return []
        false = forged_row(row, at, self._notary.seal(("forged", number)))
        return [("claim", seal_row(self._notary, run.question(), false))]

    def _met(self, bridge, run):
        """The states that were met in the plain run and the lies of the open question, by their seals."""
        met = {run.start(): run.state_at(0)}
        for n, seal in enumerate(run.seals(), start=1):
            met[seal] = run.state_at(n)
        asked = (bridge.number(), bridge.entries(bridge.number()))
        for number, entries, row, states in self._lies:
            if (number, entries) == asked:
                for seal, state in zip(row, states):
                    met[seal] = state
        return met

    def _is_quiet(self):
        """True if no question is open, every arena is shared, and the pool is empty."""
        bridge = self._ledger.contract()
        if bridge.open_number() != 0 or len(self._ledger.pool()) > 0:
            return False
        return all([bridge.arena(number).is_shared() for number in range(1, bridge.number() + 1)])

    def settle(self, limit):
        """Make blocks until all is settled, at most `limit`; returns how many were made."""
        made = 0
        while made < limit and not self._is_quiet():
            self.act(("block", ()))
            made += 1
        return made

    def _paid_questions(self):
        """The tuple of the number, both heights and the words of each paid question."""
        rows = []
        asked = 0
        for height, block in enumerate(self._ledger.blocks(), start=1):
            for (_, _, deed), answer in zip(block, self._ledger.answers(height)):
                # One question is open at a time, so the questions are asked and paid in turn.
                if answer == "ok" and deed[0] == "ask":
                    asked = height
                if answer == "ok" and deed[0] == "pay":
                    rows.append((len(rows) + 1, asked, height, deed[3]))
        return tuple(rows)

    def outcome(self):
        """The head, what was paid, and all amounts above 0."""
        accounts = self._ledger.accounts()
        amounts = tuple([(name, accounts.amount(name)) for name in accounts.names()])
        return (self._ledger.head(), self._paid_questions(), amounts)

    def ledger(self):
        """The ledger itself."""
        return self._ledger

    def notary(self):
        """The notary of the world."""
        return self._notary

    def run_of(self, number):
        """The plain run of a question of the bridge at the head, or None if there is no such question."""
        truth = self._watcher.truth(self._ledger.contract(), number)
        return None if truth is None else truth.run()
