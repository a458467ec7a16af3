"""Part 6 as a whole: an arena against a model that follows the words of the document."""

import unittest

from arenas import NAMES, Watched, halving, joins_to, part_of, replaced, seal_row
from onewatcher.histories import opening
from onewatcher.machine import first_state
from onewatcher.papers import make_paper
from onewatcher.seals import Notary
from onewatcher.spans import are_rivals, halves_of
from onewatcher.states import Run

PROGRAM = (("set", 0, 1), ("add", 1, 1, 0), ("store", 1, 0), ("write", 1))
LEVEL = 2


class Model:
    """An arena that keeps what happened, and works out everything else from it."""

    def __init__(self, notary, root_start, needed, root_stake, half_stake, window, amounts):
        self.notary = notary
        self.start = root_start
        self.needed = needed
        self.root_stake = root_stake
        self.half_stake = half_stake
        self.window = window
        self.amounts = dict((name, amounts.get(name, 0)) for name in NAMES + ("eve",))
        self.made = {}
        self.payers = {}
        self.halvers = {}
        self.halves = {}
        self.settled = []
        self.stored = {}
        self.shown = []
        self.confirmed = None
        self.closed_at = None
        self.shared = False

    def rivalled_at(self, span):
        heights = [max(made, self.made[span]) for other, made in self.made.items() if are_rivals(other, span)]
        return min(heights) if heights and span in self.made else None

    def own(self, span, height):
        until = self.rivalled_at(span)
        return (height if until is None else until) - self.made[span]

    def count(self, span, height):
        more = 0
        if span in self.settled:
            more = self.needed
        elif span in self.halves:
            more = min(self.count(half, height) for half in self.halves[span])
        return min(self.needed, self.own(span, height) + more)

    def pay(self, sender, amount):
        if self.amounts[sender] < amount:
            return False
        self.amounts[sender] -= amount
        self.amounts["purse"] += amount
        return True

    def stakes(self):
        if self.shared:
            return 0
        return len(self.payers) * self.root_stake + len(self.halves) * self.half_stake

    def apply(self, sender, deed, height, right):
        """The answer; `right` says whether the deed's openings, papers or joins are the right ones."""
        word = deed[0]
        if word == "share":
            return self.share(height)
        if word == "show":
            return self.show(deed, height, right)
        if self.closed_at is not None:
            return "closed"
        if word == "claim":
            return self.claim(sender, deed, height)
        span = deed[1]
        if span not in self.made:
            return "unknown"
        if word == "gather":
            total = self.own(span, height)
            total += self.needed if span in self.settled else 0
            total += min(self.stored.get(half, 0) for half in self.halves[span]) if span in self.halves else 0
            if min(total, self.needed) <= self.stored.get(span, 0):
                return "same"
            self.stored[span] = min(total, self.needed)
            return "ok"
        if word == "close":
            if span not in self.payers:
                return "low"
            if self.stored.get(span, 0) < self.needed:
                return "early"
            self.confirmed, self.closed_at = span, height
            return "ok"
        if (word == "halve") == (span[0] == 0):
            return "low" if word == "halve" else "high"
        if self.rivalled_at(span) is None:
            return "alone"
        if word == "paper":
            if span in self.settled:
                return "done"
            if right:
                self.settled.append(span)
            return "ok" if right else "wrong"
        if span in self.halves:
            return "done"
        if not right:
            return "wrong"
        if not self.pay(sender, self.half_stake):
            return "poor"
        self.halvers[span] = sender
        self.halves[span] = halves_of(self.notary, span)
        for half in self.halves[span]:
            self.made.setdefault(half, height)
        return "ok"

    def claim(self, sender, deed, height):
        span = (LEVEL, 0, 0, self.start, deed[1])
        if span in self.made:
            return "there"
        if not self.pay(sender, self.root_stake):
            return "poor"
        self.made[span] = height
        self.payers[span] = sender
        return "ok"

    def show(self, deed, height, right):
        if self.closed_at is None:
            return "open"
        if height > self.closed_at + self.window:
            return "late"
        if deed[1] not in self.halves:
            return "unknown"
        if deed[1] in self.shown:
            return "done"
        below = part_of(self.notary, self.confirmed, deed[1][0], deed[1][1]) == deed[1]
        if not right or not below:
            return "wrong"
        self.shown.append(deed[1])
        return "ok"

    def share(self, height):
        if self.closed_at is None:
            return "open"
        if height <= self.closed_at + self.window:
            return "early"
        if self.shared:
            return "done"
        stakes = self.stakes()
        rows = [(self.payers[self.confirmed], self.root_stake)]
        rows += [(self.halvers[span], self.half_stake) for span in self.shown]
        backed = sum(stake for _, stake in rows)
        for name, stake in rows:
            self.amounts[name] += stake + (stakes - backed) * stake // backed
            self.amounts["purse"] -= stake + (stakes - backed) * stake // backed
            stakes_left = self.amounts["purse"]
        self.amounts["purse"] = 0
        self.amounts[rows[0][0]] += stakes_left
        self.shared = True
        return "ok"


class ModelTest(unittest.TestCase):
    def begin(self, seed):
        self.number = seed * 7919 + 17
        self.notary = Notary()
        self.run = Run(self.notary, PROGRAM, (), first_state(), LEVEL)
        amounts = {"ann": 500, "bob": 400, "cat": 25, "dan": 40}
        self.needed, self.window = 2 + seed % 7 + seed % 2 * 6, 1 + seed % 6
        self.watched = Watched(self, level=LEVEL, needed=self.needed, root_stake=50, half_stake=9, window=self.window,
                               notary=self.notary, asked=self.run.question(), amounts=amounts)
        self.model = Model(self.notary, self.run.start(), self.needed, 50, 9, self.window, amounts)
        self.height = 10
        plain = self.run.seals()
        rows = [plain]
        for at in range(4):
            rows.append(replaced(plain, at, self.notary.seal(("forged", at))))
        rows.append(replaced(rows[1], 3, self.notary.seal(("forged", 3))))
        rows.append(replaced(rows[4], 2, self.notary.seal(("forged", 9))))
        # A claim that pretends what is ahead of step 3 to be another history, with the same state behind it.
        rows.append(replaced(plain, 0, self.notary.seal(("forged", 7))))
        self.roots = []
        self.spans = []
        for row in rows:
            root = self.watched.root(seal_row(self.notary, None, row))
            self.roots.append(root)
            for level in range(LEVEL, -1, -1):
                for first in range(0, 4, 2 ** level):
                    self.spans.append(part_of(self.notary, root, level, first))
        self.papers = [make_paper(self.notary, PROGRAM, (), self.run.state_at(n)) for n in range(4)]

    def chance(self, count):
        self.number = (self.number * 1103515245 + 12345) % 2 ** 31
        return self.number // 65536 % count

    def span_for(self, word):
        """Any span, a posted one, or most often one of those for which the deed has a chance."""
        arena = self.watched.arena
        spans = arena.spans()
        good = {
            "halve": [span for span in spans if arena.is_rivalled(span) and span[0] and not arena.is_halved(span)],
            "paper": [span for span in spans if arena.is_rivalled(span) and not span[0]],
            "gather": spans,
            "close": [span for span in spans if span[0] == LEVEL],
            "show": [span for span in spans if arena.is_halved(span)],
        }
        kind = self.chance(10)
        for rows in (good.get(word, []) if kind > 2 else [], spans if kind > 0 else []):
            if rows:
                return rows[self.chance(len(rows))]
        return self.spans[self.chance(len(self.spans))]

    def deed(self):
        """A deed, and whether what it shows is right."""
        words = ("claim", "halve", "halve", "halve", "paper", "paper", "gather", "gather", "gather", "close", "close",
                 "show", "share")
        if self.watched.arena.closed_at() is not None and self.chance(3):
            words = ("show", "show", "show", "show", "share")
        word = words[self.chance(len(words))]
        span = self.span_for(word)
        spoilt = self.chance(6) == 0
        if word == "claim":
            return (word, self.roots[self.chance(len(self.roots))][4]), True
        if word in ("gather", "close"):
            return (word, span), True
        if word == "share":
            return (word,), True
        if word == "halve":
            if span[0] == 0:
                return (word, span, ("join", 1, 2, 3), ("step", 1), ("step", 3)), False
            deed = halving(self.notary, span)
            return (replaced(deed, 2 + self.chance(3), ("step", 5)), False) if spoilt else (deed, True)
        if word == "paper":
            n = span[1] if not spoilt else self.chance(4)
            parts = opening(self.notary, span[4])
            state = parts[-1]
            before = self.run.start() if n == 0 else self.run.seals()[n - 1]
            right = span[3] == before and state == self.run.seals()[n] and n == span[1]
            return (word, span, state, self.papers[n]), right
        confirmed = self.watched.arena.confirmed() or self.roots[0]
        joins = joins_to(self.notary, confirmed[4], LEVEL, span)
        if spoilt:
            return (word, span, joins + (("step", 5),)), False
        return (word, span, joins), True

    def check(self):
        arena, model, height = self.watched.arena, self.model, self.height
        self.assertEqual(arena.spans(), list(model.made))
        for span in self.spans:
            posted = span in model.made
            self.assertIs(arena.is_posted(span), posted)
            self.assertIs(arena.is_rivalled(span), posted and model.rivalled_at(span) is not None)
            self.assertIs(arena.is_settled(span), span in model.settled)
            self.assertIs(arena.is_shown(span), span in model.shown)
            self.assertEqual(arena.halves(span), model.halves.get(span))
            self.assertEqual(arena.payer(span), model.payers.get(span))
            self.assertEqual(arena.halver(span), model.halvers.get(span))
            if posted:
                self.assertEqual(arena.made(span), model.made[span])
                self.assertEqual(arena.stored(span), model.stored.get(span, 0))
                for later in (height, height + 1, height + 20):
                    self.assertEqual(arena.own(span, later), model.own(span, later))
                    self.assertEqual(arena.count(span, later), model.count(span, later))
                    # [6.9]: a stored count is never more than the count.
                    self.assertLessEqual(arena.stored(span), arena.count(span, later))
        self.assertEqual(arena.confirmed(), model.confirmed)
        self.assertEqual(arena.closed_at(), model.closed_at)
        self.assertIs(arena.is_shared(), model.shared)
        self.assertEqual(arena.stakes(), model.stakes())
        for name, amount in model.amounts.items():
            self.assertEqual(self.watched.accounts.amount(name), amount, name)

    def one_deed(self, deed, right):
        sender = ("ann", "bob", "cat", "dan", "eve", "ann", "bob")[self.chance(7)]
        answer = self.watched.do(sender, deed, self.height)
        self.assertEqual(answer, self.model.apply(sender, deed, self.height, right), deed)
        if answer == "ok":
            self.check()
        return answer

    def end(self):
        """All that can be gathered is gathered, and what can be closed is closed."""
        self.height += self.needed
        for span in reversed(self.watched.arena.spans()):
            self.one_deed(("gather", span), True)
        for span in self.roots:
            self.one_deed(("close", span), True)

    def test_many_deeds(self):
        answers = {}
        for seed in range(60):
            self.begin(seed)
            self.one_deed(("claim", self.roots[0][4]), True)
            for turn in range(120):
                if turn == 70:
                    self.end()
                deed, right = self.deed()
                answer = self.one_deed(deed, right)
                answers.setdefault(deed[0], {}).setdefault(answer, 0)
                answers[deed[0]][answer] += 1
                if self.chance(5) == 0:
                    # What goes on is a copy.
                    self.watched.arena = self.watched.arena.copy()
                    self.check()
                self.height += self.chance(6) == 0
        told = {"claim": "ok closed there poor", "halve": "ok closed unknown low alone done wrong poor",
                "paper": "ok closed unknown high alone done wrong", "gather": "ok closed unknown same",
                "close": "ok closed unknown low early", "show": "ok open late unknown done wrong",
                "share": "ok open early done"}
        for word, rows in told.items():
            self.assertEqual(sorted(answers[word]), sorted(rows.split()), word)
        for word in ("show", "share", "paper"):
            self.assertGreater(answers[word]["ok"], 10, word)


if __name__ == "__main__":
    unittest.main()
