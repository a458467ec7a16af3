"""[10.6]: bounds."""

import unittest

from arenas import halving, seen
from onewatcher.bounds import latest_closing, least_needed, outlay_bound, rival_counts
from truths import Stage


class NumberTest(unittest.TestCase):
    def test_least_needed(self):
        rows = ((0, 1, 2), (0, 5, 6), (1, 1, 3), (3, 2, 9), (10, 1, 12), (10, 7, 78))
        for level, patience, told in rows:
            self.assertEqual(least_needed(level, patience), told)

    def test_latest_closing(self):
        rows = ((0, 0, 1, 1, 5), (7, 0, 1, 1, 12), (0, 0, 1, 30, 34), (0, 3, 1, 5, 15), (0, 3, 2, 5, 25),
                (100, 10, 3, 40, 212))
        for opened, level, patience, needed, told in rows:
            self.assertEqual(latest_closing(opened, level, patience, needed), told)


class ArenaTest(unittest.TestCase):
    def setUp(self):
        self.stage = Stage(self, level=2, needed=9, root_stake=100, half_stake=7)
        self.arena = self.stage.arena

    def counts(self, height):
        before = seen(self.arena)
        found = rival_counts(self.arena, self.stage.truth, height)
        held = list(found)
        found.append(7)
        self.assertEqual(rival_counts(self.arena, self.stage.truth, height), held)
        self.assertEqual(seen(self.arena), before)
        return held

    def bounds(self):
        return tuple(outlay_bound(self.arena, name) for name in ("ann", "bob", "cat"))

    def test_rival_counts(self):
        self.assertEqual(self.counts(10), [])
        self.stage.rival_claim(10, 3)
        self.assertEqual([self.counts(height) for height in (10, 13, 19, 50)], [[0], [3], [9], [9]])
        self.stage.true_claim(13)
        self.assertEqual(self.counts(13), [3])
        self.stage.rival_claim(15, 0)
        self.stage.rival_claim(16, 1)
        self.assertEqual(self.counts(30), [3, 0, 0])
        # The halves count for their spans, but are no roots themselves.
        for span in self.arena.spans()[:1]:
            self.stage.ok("cat", halving(self.stage.notary, span), 17)
        self.assertEqual([self.counts(height) for height in (17, 19, 23, 40)],
                         [[3, 0, 0], [5, 0, 0], [9, 0, 0], [9, 0, 0]])

    def test_rival_counts_in_the_order_of_posting(self):
        for height, at in ((10, 1), (11, 0)):
            self.stage.rival_claim(height, at)
        self.assertEqual(self.counts(30), [1, 0])
        self.stage.true_claim(40)
        self.assertEqual(self.counts(41), [1, 0])

    def test_outlay_bound(self):
        self.assertEqual(self.bounds(), (100, 100, 100))
        root = self.stage.true_claim(10, "ann")
        self.assertEqual(self.bounds(), (100, 107, 107))
        other = self.stage.rival_claim(11, 2, name="bob")
        self.assertEqual(self.bounds(), (107, 107, 114))
        self.stage.ok("ann", halving(self.stage.notary, root), 12)
        self.assertEqual(self.bounds(), (107, 121, 128))
        self.stage.ok("cat", halving(self.stage.notary, other), 12)
        self.assertEqual(self.bounds(), (121, 135, 128))
        self.stage.rival_claim(13, 1, name="bob")
        self.assertEqual(self.bounds(), (128, 135, 135))
        for span in self.arena.unhalved():
            self.stage.ok("bob", halving(self.stage.notary, span), 14)
        self.assertEqual(len([span for span in self.arena.spans() if self.arena.halver(span) == "bob"]), 3)
        self.assertEqual(self.bounds(), (170, 135, 177))

    def test_other_stakes(self):
        self.stage = Stage(self, level=1, needed=9, root_stake=31, half_stake=2)
        self.arena = self.stage.arena
        self.assertEqual(self.bounds(), (31, 31, 31))
        self.stage.rival_claim(11, 1, name="bob")
        self.stage.rival_claim(11, 0, name="cat")
        self.stage.ok("cat", halving(self.stage.notary, self.arena.spans()[0]), 12)
        self.assertEqual(self.bounds(), (39, 37, 33))


if __name__ == "__main__":
    unittest.main()
