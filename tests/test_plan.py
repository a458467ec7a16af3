"""[8.2] and [8.3]: the needs of true spans, and the plan of a watcher."""

import unittest

from arenas import halving, seen
from onewatcher.watcher import needs, plan
from truths import Stage


def needs_by_words(truth, arena, height):
    """[8.3], followed from the root down."""
    found = {}

    def reach(span, need):
        found[span] = need
        for half in arena.halves(span) or ():
            reach(half, max(0, need - arena.own(span, height)))

    if arena.is_posted(truth.root()):
        reach(truth.root(), arena.needed())
    return found


def is_gathered(arena, height, reached, span):
    need = reached[span]
    halved = arena.is_halved(span) and all(arena.stored(half) >= reached[half] for half in arena.halves(span))
    return arena.stored(span) < need and (halved or arena.is_settled(span) or arena.own(span, height) >= need)


def plan_by_words(truth, arena, height, name):
    """[8.2], word by word."""
    root, spans = truth.root(), [span for span in arena.spans() if truth.is_true(span)]
    if arena.is_shared():
        return []
    deeds = []
    if arena.closed_at() is not None:
        if arena.confirmed() != root:
            return []
        end = arena.closed_at() + arena.window()
        if height < end:
            for span in spans:
                if arena.is_halved(span) and arena.halver(span) == name and not arena.is_shown(span):
                    deeds.append(truth.showing(span))
        if height >= end:
            deeds.append(("share",))
        return deeds
    if root not in spans:
        deeds.append(("claim", root[4]))
    for span in spans:
        if arena.is_rivalled(span) and not arena.is_halved(span) and span[0] > 0:
            deeds.append(truth.halving(span))
    for span in spans:
        if arena.is_rivalled(span) and not arena.is_settled(span) and span[0] == 0:
            deeds.append(truth.paper(span))
    if root in spans and arena.count(root, height) == arena.needed():
        reached = needs_by_words(truth, arena, height)
        for span in spans:
            if span in reached and is_gathered(arena, height, reached, span):
                deeds.append(("gather", span))
        if arena.stored(root) == arena.needed():
            deeds.append(("close", root))
    return deeds


class PlanTest(unittest.TestCase):
    def begin(self, level=2, **more):
        self.stage = Stage(self, level=level, **more)
        self.arena, self.truth = self.stage.arena, self.stage.truth
        self.root = self.truth.root()

    def span(self, level, first):
        return self.truth.true_span(level, first)

    def plan(self, height, name="ann"):
        """The plan at a height; the arena is as before, and what is returned may be changed."""
        before = seen(self.arena)
        size = self.stage.notary.size()
        deeds = plan(self.truth, self.arena, height, name)
        found = needs(self.truth, self.arena, height)
        self.assertEqual(deeds, plan_by_words(self.truth, self.arena, height, name))
        self.assertEqual(found, needs_by_words(self.truth, self.arena, height))
        held = list(deeds)
        deeds.append("later")
        found.clear()
        self.assertEqual(plan(self.truth, self.arena, height, name), held)
        self.assertEqual(needs(self.truth, self.arena, height), needs_by_words(self.truth, self.arena, height))
        self.assertEqual(seen(self.arena), before)
        self.assertEqual(self.stage.notary.size(), size)
        return held

    def needs(self, height):
        return needs(self.truth, self.arena, height)

    def test_without_a_claim(self):
        self.begin()
        self.assertEqual(self.needs(10), {})
        for height in (10, 11, 500):
            self.assertEqual(self.plan(height), [("claim", self.root[4])])
            self.assertEqual(self.plan(height, "nobody"), [("claim", self.root[4])])

    def test_false_claims_alone(self):
        self.begin()
        self.stage.rival_claim(10, 0)
        self.stage.rival_claim(10, 3)
        self.assertEqual(self.needs(20), {})
        self.assertEqual(self.plan(20), [("claim", self.root[4])])
        # A true span is halved and settled even ahead of the true claim.
        for span in self.arena.unhalved():
            self.stage.ok("bob", halving(self.stage.notary, span), 20)
        left = self.span(1, 0)
        self.assertIs(self.arena.is_rivalled(left), True)
        self.assertEqual(self.plan(21), [("claim", self.root[4]), self.truth.halving(left)])
        self.stage.ok("bob", self.truth.halving(left), 21)
        for span in self.arena.unhalved():
            self.stage.ok("bob", halving(self.stage.notary, span), 22)
        low = self.span(0, 0)
        self.assertEqual(self.plan(23), [("claim", self.root[4]), self.truth.paper(low)])
        self.assertEqual(self.needs(23), {})

    def test_the_true_claim_alone(self):
        self.begin(needed=3)
        self.stage.true_claim(10)
        for height in (10, 11, 12):
            self.assertEqual(self.plan(height), [])
            self.assertEqual(self.needs(height), {self.root: 3})
        for height in (13, 14, 99):
            self.assertEqual(self.plan(height), [("gather", self.root)])
        # A gather that came too early leaves less than is needed.
        self.stage.ok("bob", ("gather", self.root), 12)
        self.assertEqual(self.plan(12), [])
        self.assertEqual(self.plan(13), [("gather", self.root)])
        self.stage.ok("bob", ("gather", self.root), 14)
        self.assertEqual(self.plan(14), [("close", self.root)])
        self.assertEqual(self.plan(14, "nobody"), [("close", self.root)])

    def test_a_rival_of_the_root(self):
        self.begin(needed=9)
        self.stage.true_claim(10)
        self.stage.rival_claim(12, 2)
        self.assertEqual(self.plan(12), [self.truth.halving(self.root)])
        self.stage.ok("ann", self.truth.halving(self.root), 13)
        self.assertEqual(self.plan(13), [])
        self.assertEqual(self.needs(13), {self.root: 9, self.span(1, 0): 7, self.span(1, 2): 7})
        # The halves are wanted as soon as they have stood for the rest of the need.
        self.assertEqual(self.plan(19), [])
        halves = [("gather", self.span(1, 0)), ("gather", self.span(1, 2))]
        self.assertEqual(self.plan(20), halves)
        self.stage.ok("bob", halves[1], 20)
        self.assertEqual(self.plan(20), halves[:1])
        self.stage.ok("bob", halves[0], 20)
        self.assertEqual(self.plan(20), [("gather", self.root)])
        self.stage.ok("bob", ("gather", self.root), 20)
        self.assertEqual(self.plan(20), [("close", self.root)])

    def test_a_stored_count_below_at_and_above_the_need(self):
        self.begin(needed=9)
        self.stage.true_claim(10)
        self.stage.rival_claim(12, 2)
        self.stage.ok("ann", self.truth.halving(self.root), 13)
        left, right = self.span(1, 0), self.span(1, 2)
        self.stage.ok("bob", ("gather", left), 19)
        self.assertEqual((self.arena.stored(left), self.needs(19)[left]), (6, 7))
        self.stage.ok("bob", ("gather", right), 22)
        self.assertEqual((self.arena.stored(right), self.needs(22)[right]), (9, 7))
        self.assertEqual(self.plan(22), [("gather", left)])
        self.stage.ok("bob", ("gather", left), 22)
        self.assertEqual(self.plan(22), [("gather", self.root)])

    def test_rivals_at_each_level(self):
        self.begin(needed=20)
        self.stage.true_claim(10)
        self.stage.rival_claim(10, 0)
        self.stage.rival_claim(10, 1)
        self.stage.rival_claim(10, 2)
        self.assertEqual(self.plan(10), [self.truth.halving(self.root)])
        self.stage.ok("ann", self.truth.halving(self.root), 11)
        for span in self.arena.unhalved():
            self.stage.ok("bob", halving(self.stage.notary, span), 12)
        # Both halves have rivals, and are wanted in the order of posting.
        self.assertEqual(self.plan(12), [self.truth.halving(self.span(1, 0)), self.truth.halving(self.span(1, 2))])
        self.stage.ok("ann", self.truth.halving(self.span(1, 2)), 13)
        self.stage.ok("ann", self.truth.halving(self.span(1, 0)), 13)
        for span in self.arena.unhalved():
            self.stage.ok("bob", halving(self.stage.notary, span), 14)
        lows = [self.span(0, 2), self.span(0, 0), self.span(0, 1)]
        self.assertEqual(self.plan(14), [self.truth.paper(span) for span in lows])
        self.stage.ok("ann", self.truth.paper(lows[2]), 15)
        self.assertEqual(self.plan(15), [self.truth.paper(span) for span in lows[:2]])
        self.stage.settle_true(16)
        # Step 3 has no rival, and has stood since 13; all needs are 20 less what the spans above have.
        self.assertEqual(self.arena.own(self.span(1, 0), 16), 1)
        found = self.needs(16)
        self.assertEqual([found[span] for span in self.stage.all_spans()], [20, 20, 20, 19, 19, 19, 19])
        self.assertEqual(self.plan(31), [])
        gathers = [("gather", span) for span in self.arena.spans() if span in lows + [self.span(0, 3)]]
        self.assertEqual(len(gathers), 4)
        self.assertEqual(self.plan(32), gathers)
        for deed in gathers:
            self.stage.ok("ann", deed, 33)
        self.assertEqual(self.plan(33), [("gather", self.span(1, 0)), ("gather", self.span(1, 2))])
        self.stage.ok("ann", ("gather", self.span(1, 2)), 33)
        self.assertEqual(self.plan(33), [("gather", self.span(1, 0))])
        self.stage.ok("ann", ("gather", self.span(1, 0)), 33)
        self.assertEqual(self.plan(33), [("gather", self.root)])
        self.stage.ok("ann", ("gather", self.root), 33)
        self.assertEqual(self.plan(33), [("close", self.root)])

    def test_halvings_come_ahead_of_papers(self):
        self.begin(needed=20)
        self.stage.true_claim(10)
        self.stage.rival_claim(10, 0)
        self.stage.rival_claim(10, 3)
        self.stage.ok("ann", self.truth.halving(self.root), 11)
        for _ in range(2):
            for span in self.arena.unhalved():
                if span != self.span(1, 2):
                    self.stage.ok("bob", halving(self.stage.notary, span), 12)
        self.assertEqual(self.plan(12), [self.truth.halving(self.span(1, 2)), self.truth.paper(self.span(0, 0))])

    def test_needs_of_zero(self):
        # The root stood long enough by itself, but its stored count came too late.
        self.begin(needed=4)
        self.stage.true_claim(10)
        self.stage.rival_claim(15, 0)
        self.stage.ok("ann", self.truth.halving(self.root), 16)
        self.assertEqual(self.needs(16), {self.root: 4, self.span(1, 0): 0, self.span(1, 2): 0})
        self.assertEqual(self.plan(16), [("gather", self.root)])
        self.stage.ok("bob", ("gather", self.root), 16)
        self.assertEqual(self.plan(16), [("close", self.root)])

    def test_gathers_beside_halvings_and_papers(self):
        self.begin(needed=4)
        self.stage.true_claim(10)
        self.stage.rival_claim(15, 1)
        # The root has its count, and is rivalled besides; its own count is at least its need.
        self.assertEqual(self.plan(15), [self.truth.halving(self.root), ("gather", self.root)])
        self.stage.ok("bob", ("gather", self.root), 15)
        self.assertEqual(self.plan(15), [self.truth.halving(self.root), ("close", self.root)])

    def test_the_closing_stays_behind_gathers_that_are_left(self):
        self.begin(needed=4)
        self.stage.true_claim(10)
        self.stage.rival_claim(13, 0)
        self.stage.ok("ann", self.truth.halving(self.root), 14)
        for span in self.stage.all_spans()[1:3]:
            self.stage.ok("bob", ("gather", span), 20)
        self.stage.ok("bob", ("gather", self.root), 20)
        for span in self.arena.unhalved():
            self.stage.ok("bob", halving(self.stage.notary, span), 20)
        left = self.span(1, 0)
        self.assertEqual(self.plan(20), [self.truth.halving(left), ("close", self.root)])
        self.stage.ok("ann", self.truth.halving(left), 20)
        # The stored count of the left half is above its need; below it there is nothing left to want.
        self.assertEqual(self.needs(20)[left], 1)
        self.assertEqual(self.plan(20), [("close", self.root)])

    def closed(self, level=2, window=5):
        """Closed with the true root at 40; ann has halved the root, bob the left half."""
        self.begin(level=level, needed=4, window=window)
        self.stage.true_claim(10)
        self.stage.rival_claim(10, 0)
        self.stage.ok("ann", self.truth.halving(self.root), 11)
        for span in self.arena.unhalved():
            self.stage.ok("bob", halving(self.stage.notary, span), 11)
        self.stage.ok("bob", self.truth.halving(self.span(1, 0)), 12)
        for span in self.arena.unhalved():
            self.stage.ok("ann", halving(self.stage.notary, span), 12)
        self.stage.settle_true(13)
        self.stage.gather_true(40)
        self.assertEqual(self.plan(40), [("close", self.root)])
        self.stage.ok("cat", ("close", self.root), 40)

    def test_closed_with_the_true_root(self):
        self.closed()
        one, other = self.truth.showing(self.root), self.truth.showing(self.span(1, 0))
        for height in (40, 41, 44):
            self.assertEqual(self.plan(height), [one])
            self.assertEqual(self.plan(height, "bob"), [other])
            self.assertEqual(self.plan(height, "cat"), [])
        for height in (45, 46, 99):
            for name in ("ann", "bob", "cat"):
                self.assertEqual(self.plan(height, name), [("share",)])

    def test_shown_and_shared(self):
        self.closed(window=1)
        self.assertEqual(self.plan(40), [self.truth.showing(self.root)])
        self.stage.ok("bob", self.truth.showing(self.root), 40)
        self.assertEqual(self.plan(40), [])
        self.assertEqual(self.plan(40, "bob"), [self.truth.showing(self.span(1, 0))])
        self.assertEqual(self.plan(41), [("share",)])
        self.stage.ok("bob", ("share",), 42)
        for height in (42, 43):
            self.assertEqual(self.plan(height), [])
            self.assertEqual(self.plan(height, "bob"), [])

    def test_showings_in_the_order_of_posting(self):
        self.begin(level=2, needed=4, window=5)
        self.stage.true_claim(10)
        self.stage.rival_claim(10, 0)
        self.stage.rival_claim(10, 3)
        for span in self.arena.unhalved():
            self.stage.ok("bob" if span != self.root else "ann", halving(self.stage.notary, span), 11)
        self.stage.ok("ann", self.truth.halving(self.span(1, 2)), 12)
        self.stage.ok("ann", self.truth.halving(self.span(1, 0)), 13)
        self.stage.gather_true(40)
        self.stage.ok("cat", ("close", self.root), 40)
        self.assertEqual(self.plan(42), [self.truth.showing(span)
                                         for span in (self.root, self.span(1, 0), self.span(1, 2))])

    def test_closed_with_another_span(self):
        self.begin(needed=4, window=3)
        false = self.stage.rival_claim(10, 1)
        self.stage.close(false, 14)
        for height in (14, 16, 17, 18, 99):
            self.assertEqual(self.plan(height), [])
        self.stage.ok("bob", ("share",), 18)
        self.assertEqual(self.plan(18), [])

    def test_level_0(self):
        self.begin(level=0, needed=4)
        self.stage.true_claim(10)
        self.stage.rival_claim(10, 0)
        self.assertEqual(self.plan(10), [self.truth.paper(self.root)])
        self.stage.ok("ann", self.truth.paper(self.root), 11)
        self.assertEqual(self.plan(11), [("gather", self.root)])

    def test_many_arenas(self):
        counts = {}
        for seed in range(60):
            self.number = seed * 7919 + 3
            self.begin(level=2 + seed % 2, needed=3 + seed % 9, window=2 + seed % 4)
            height = 10
            rows = [(0,), (1,), (3,), (0, 2), (2,)]
            for _ in range(60):
                height += self.chance(3) == 0
                name = ("ann", "bob", "cat")[self.chance(3)]
                for deed in self.plan(height, name):
                    counts[deed[0]] = counts.get(deed[0], 0) + 1
                self.one_deed(name, height, rows)
        for word in ("claim", "halve", "paper", "gather", "close", "show", "share"):
            self.assertGreater(counts[word], 20, word)

    def chance(self, count):
        self.number = (self.number * 1103515245 + 12345) % 2 ** 31
        return self.number // 65536 % count

    def one_deed(self, name, height, rows):
        """What this player does: by the plan, or a rival, a halving or a gather of any span."""
        wanted = plan(self.truth, self.arena, height, name)
        kind = self.chance(9)
        spans = self.arena.spans()
        if wanted and kind < 5:
            self.stage.do(name, wanted[self.chance(len(wanted))], height)
        elif kind == 5 and rows and self.arena.closed_at() is None:
            self.stage.rival_claim(height, *rows.pop(self.chance(len(rows))), name=name)
        elif kind < 8 and self.arena.unhalved():
            waiting = self.arena.unhalved()
            self.stage.do(name, halving(self.stage.notary, waiting[self.chance(len(waiting))]), height)
        elif spans:
            self.stage.do(name, ("gather", spans[self.chance(len(spans))]), height)


if __name__ == "__main__":
    unittest.main()
