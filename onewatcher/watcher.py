"""The watcher that keeps the rules: what it wants of an arena and of a bridge."""

from onewatcher.bridge import input_of
from onewatcher.histories import opening
from onewatcher.machine import first_state
from onewatcher.states import Run, fields_of
from onewatcher.truth import Truth


def needs(truth, arena, height):
    """The needs of the true spans that are reached from the true root span; empty if that is not posted."""
    found = {}
    waiting = []
    if arena.is_posted(truth.root()):
        waiting.append((truth.root(), arena.needed()))
    while len(waiting) > 0:
        span, need = waiting.pop()
        found[span] = need
        if arena.is_halved(span):
            left, right = arena.halves(span)
            rest = max(0, need - arena.own(span, height))
            waiting.append((right, rest))
            waiting.append((left, rest))
    return found


def _can_gather(arena, height, reached, span):
    """True if the stored count of a span that is reached is below its need, and a gather lifts it there."""
    need = reached[span]
    if arena.stored(span) >= need:
        return False
    if arena.is_halved(span) and all([arena.stored(half) >= reached[half] for half in arena.halves(span)]):
        return True
    return arena.is_settled(span) or arena.own(span, height) >= need


def _ending(truth, arena, height):
    """The gathers and the closing, as soon as the count of the true root span is enough."""
    root = truth.root()
    if not arena.is_posted(root) or arena.count(root, height) < arena.needed():
        return []
    reached = needs(truth, arena, height)
    deeds = [("gather", span) for span in arena.spans()
             if span in reached and _can_gather(arena, height, reached, span)]
    if arena.stored(root) == arena.needed():
        deeds.append(("close", root))
    return deeds


def _while_open(truth, arena, height):
    root = truth.root()
    deeds = []
    if not arena.is_posted(root):
        deeds.append(("claim", root[4]))
    deeds.extend([truth.halving(span) for span in arena.unhalved() if truth.is_true(span)])
    deeds.extend([truth.paper(span) for span in arena.unsettled() if truth.is_true(span)])
    return deeds + _ending(truth, arena, height)


def _once_closed(truth, arena, height, name):
    if height >= arena.closed_at() + arena.window():
        return [("share",)]
    return [truth.showing(span) for span in arena.spans()
            if truth.is_true(span) and arena.halver(span) == name and not arena.is_shown(span)]


def plan(truth, arena, height, name):
    """The list of the deeds that a watcher with this name wants of an arena at a head of this height."""
    if arena.is_shared():
        return []
    if arena.closed_at() is None:
        return _while_open(truth, arena, height)
    if arena.confirmed() != truth.root():
        return []
    return _once_closed(truth, arena, height, name)


class Watcher:
    """Knows what the runs of all questions are, and wants nothing but that."""

    def __init__(self, notary, name):
        self._notary = notary
        self._name = name
        # Kept by all that a run depends on, as another question may get the same number.
        self._truths = {}

    def truth(self, bridge, k):
        """The truth of question k, or None if there is no such question."""
        entries = bridge.entries(k)
        if entries is None:
            return None
        key = (bridge.program(), input_of(entries), bridge.level())
        if key not in self._truths:
            program, words, level = key
            self._truths[key] = Truth(self._notary, Run(self._notary, program, words, first_state(), level))
        return self._truths[key]

    def _pay_deed(self, truth):
        run = truth.run()
        last = run.state_at(len(run.seals()))
        return ("pay", opening(self._notary, truth.root()[4]), fields_of(self._notary, last), last[4])

    def deeds(self, bridge, height):
        """The list of the deeds that the watcher wants of a bridge at a head of this height."""
        wanted = []
        for number in range(1, bridge.number() + 1):
            arena = bridge.arena(number)
            if arena.is_shared() and bridge.is_paid(number):
                continue
            truth = self.truth(bridge, number)
            wanted.extend([("arena", number, deed) for deed in plan(truth, arena, height, self._name)])
            if arena.confirmed() == truth.root() and not bridge.is_paid(number):
                wanted.append(self._pay_deed(truth))
        return wanted
