"""[6.6] to [6.9], [6.14] and [6.15]: counts, gathers and closings."""

import unittest

from arenas import Watched, part_of, replaced
from onewatcher.machine import first_state
from onewatcher.papers import make_paper
from onewatcher.seals import Notary
from onewatcher.spans import halves_of
from onewatcher.states import Run

ROW = (21, 22, 23, 24)
PROGRAM = (("set", 0, 1), ("set", 1, 2), ("set", 2, 3), ("set", 3, 4))


class OwnTest(unittest.TestCase):
    def test_without_a_rival(self):
        watched = Watched(self, needed=3)
        root = watched.claim("ann", ROW, 12)
        for height in (12, 13, 14, 15, 16, 100):
            self.assertEqual(watched.arena.own(root, height), height - 12)
            self.assertEqual(watched.arena.count(root, height), min(3, height - 12))
        self.assertEqual(watched.arena.stored(root), 0)

    def test_a_rival_that_comes_later(self):
        watched = Watched(self, needed=50)
        one = watched.claim("ann", ROW, 12)
        other = watched.claim("bob", (1, 2, 3, 4), 17)
        third = watched.claim("bob", (1, 2, 3, 5), 19)
        for height in (19, 20, 60):
            self.assertEqual([watched.arena.own(span, height) for span in (one, other, third)], [5, 0, 0])
            self.assertEqual([watched.arena.count(span, height) for span in (one, other, third)], [5, 0, 0])
        self.assertEqual([watched.arena.is_rivalled(span) for span in (one, other, third)], [True] * 3)

    def test_a_rival_at_the_same_height(self):
        watched = Watched(self, needed=50)
        one = watched.claim("ann", ROW, 12)
        self.assertEqual(watched.arena.own(one, 12), 0)
        other = watched.claim("bob", (1, 2, 3, 4), 12)
        self.assertEqual([watched.arena.own(span, 30) for span in (one, other)], [0, 0])

    def test_a_rival_that_comes_again(self):
        # A third claim does not change from which height on the first two are rivalled.
        watched = Watched(self, needed=50)
        one = watched.claim("ann", ROW, 10)
        watched.claim("bob", (1, 2, 3, 4), 13)
        watched.claim("bob", (1, 2, 3, 5), 20)
        self.assertEqual(watched.arena.own(one, 25), 3)

    def test_spans_that_are_no_rivals_do_not_matter(self):
        watched = Watched(self, needed=50)
        one = watched.claim("ann", ROW, 10)
        watched.claim("bob", (21, 22, 9, 9), 11)
        left, right = watched.halve("ann", one, 12)
        self.assertEqual([watched.arena.own(span, 30) for span in (one, left, right)], [1, 18, 18])

    def test_the_height_of_a_rival_among_halves(self):
        watched = Watched(self, needed=50)
        one = watched.claim("ann", ROW, 10)
        other = watched.claim("bob", (21, 22, 9, 9), 11)
        left, right = watched.halve("ann", one, 12)
        _, other_right = watched.halve("ann", other, 20)
        self.assertEqual([watched.arena.own(span, 30) for span in (left, right, other_right)], [18, 8, 0])
        self.assertEqual([watched.arena.made(span) for span in (left, right, other_right)], [12, 12, 20])

    def test_a_closed_arena_at_heights_from_the_closing_on(self):
        watched = Watched(self, needed=3)
        one = watched.claim("ann", ROW, 10)
        watched.claim("bob", (1, 2, 3, 4), 14)
        left, right = watched.halve("ann", one, 16)
        watched.close(one, 17)
        watched.ok("cat", ("share",), 40)
        for height in (17, 18, 25, 40, 41):
            self.assertEqual([watched.arena.own(span, height) for span in (one, left, right)],
                             [4, height - 16, height - 16])
            self.assertEqual([watched.arena.count(span, height) for span in (one, left, right)],
                             [3, min(3, height - 16), min(3, height - 16)])


class CountTest(unittest.TestCase):
    def begin(self, needed, level=2):
        notary = Notary()
        self.run = Run(notary, PROGRAM, (), first_state(), level)
        self.watched = Watched(self, level=level, needed=needed, notary=notary, asked=self.run.question())
        self.arena = self.watched.arena
        self.true = self.watched.claim("ann", self.run.seals(), 10)

    def lie(self, at, height):
        row = replaced(self.run.seals(), at, self.watched.notary.seal(("forged", at, height)))
        return self.watched.claim("bob", row, height)

    def settle(self, at, height):
        """The paper of the true span of the step number `at`."""
        span = part_of(self.watched.notary, self.true, 0, at)
        paper = make_paper(self.watched.notary, PROGRAM, (), self.run.state_at(at))
        self.watched.ok("cat", ("paper", span, self.run.seals()[at], paper), height)
        return span

    def test_halves_add_the_lesser_count(self):
        self.begin(needed=50)
        self.lie(3, 13)
        left, right = self.watched.halve("ann", self.true, 15)
        count = self.arena.count
        self.assertEqual([count(self.true, height) for height in (15, 16, 20, 61, 62, 63, 99)],
                         [3, 4, 8, 49, 50, 50, 50])
        # The left half goes on, the right one stands still.
        other = self.watched.halve("ann", self.arena.spans()[1], 18)
        self.assertEqual(other[0], left)
        self.assertEqual([count(self.true, height) for height in (18, 20, 90)], [6, 6, 6])
        self.assertEqual([count(span, 40) for span in (left, right)], [25, 3])
        # A span that is halved counts through its halves alone, also if it is rivalled: the other one does too.
        self.assertEqual(count(self.arena.spans()[1], 40), 0)

    def test_the_right_half_may_be_the_greater_one(self):
        self.begin(needed=50)
        self.lie(0, 13)
        left, right = self.watched.halve("ann", self.true, 15)
        other_left, other_right = self.watched.halve("ann", self.arena.spans()[1], 19)
        self.assertEqual([self.arena.count(span, 40) for span in (left, right)], [4, 25])
        self.assertEqual(self.arena.count(self.true, 40), 7)
        self.assertEqual([self.arena.count(span, 40) for span in (other_left, other_right)], [0, 21])
        self.assertEqual(self.arena.count(self.arena.spans()[1], 40), 0)

    def deep(self, needed, settle):
        """A true claim whose first step is contested down to level 0, and is settled or not."""
        self.begin(needed)
        false = self.lie(0, 12)
        for at, level in enumerate((2, 1)):
            self.watched.halve("ann", part_of(self.watched.notary, self.true, level, 0), 14 + at)
            self.watched.halve("ann", part_of(self.watched.notary, false, level, 0), 14 + at)
        if settle:
            self.settle(0, 17)
        return false

    def test_settled_spans(self):
        self.deep(needed=9, settle=True)
        notary = self.watched.notary
        low = part_of(notary, self.true, 0, 0)
        middle = part_of(notary, self.true, 1, 0)
        right_low, right = part_of(notary, self.true, 0, 1), part_of(notary, self.true, 1, 2)
        for height, told in ((17, (9, 2, 3, 2, 4)), (20, (9, 5, 6, 5, 7)), (24, (9, 9, 9, 9, 9)), (40, (9,) * 5)):
            spans = (low, right_low, right, middle, self.true)
            self.assertEqual(tuple(self.arena.count(span, height) for span in spans), told, height)
            self.assertEqual(self.arena.own(low, height), 0)

    def test_spans_that_are_not_settled(self):
        false = self.deep(needed=9, settle=False)
        for height in (17, 24, 40):
            self.assertEqual(self.arena.count(self.true, height), 2)
            self.assertEqual(self.arena.count(false, height), 0)

    def test_a_settled_span_of_its_own_count(self):
        self.begin(needed=5, level=0)
        self.lie(0, 13)
        self.assertEqual(self.arena.count(self.true, 13), 3)
        self.settle(0, 13)
        self.assertEqual(self.arena.count(self.true, 13), 5)
        self.assertEqual(self.arena.own(self.true, 30), 3)

    def test_a_copy_has_the_settled_spans_and_the_rivals(self):
        self.begin(needed=5, level=0)
        first = self.arena.copy()
        self.lie(0, 13)
        second = self.arena.copy()
        self.settle(0, 14)
        third = self.arena.copy()
        self.assertEqual([arena.is_settled(self.true) for arena in (first, second, third)], [False, False, True])
        self.assertEqual([arena.count(self.true, 14) for arena in (first, second, third)], [4, 3, 5])
        # A rival that comes to a copy is a rival of what was posted before.
        false = self.watched.notary.find(("step", self.watched.notary.find(("forged", 0, 13))))
        self.assertEqual(first.apply("bob", ("claim", false), 16, self.watched.accounts, "purse"), "ok")
        self.assertIs(first.is_rivalled(self.true), True)
        self.assertEqual(first.own(self.true, 30), 6)
        self.assertEqual(second.own(self.true, 30), 3)

    def test_stored_counts_follow_the_gathers(self):
        self.deep(needed=9, settle=True)
        notary = self.watched.notary
        low, right_low = part_of(notary, self.true, 0, 0), part_of(notary, self.true, 0, 1)
        middle, right = part_of(notary, self.true, 1, 0), part_of(notary, self.true, 1, 2)
        spans = (low, right_low, middle, right, self.true)

        def stored():
            return [self.arena.stored(span) for span in spans]

        def gather(span, height, answer="ok"):
            self.assertEqual(self.watched.do("eve", ("gather", span), height), answer)

        self.assertEqual(stored(), [0] * 5)
        gather(self.true, 20)
        self.assertEqual(stored(), [0, 0, 0, 0, 2])
        gather(middle, 20, "same")
        gather(low, 20)
        self.assertEqual(stored(), [9, 0, 0, 0, 2])
        gather(middle, 20, "same")
        gather(right_low, 20)
        self.assertEqual(stored(), [9, 5, 0, 0, 2])
        gather(middle, 21)
        self.assertEqual(stored(), [9, 5, 5, 0, 2])
        gather(self.true, 21, "same")
        gather(right, 22)
        self.assertEqual(stored(), [9, 5, 5, 8, 2])
        gather(self.true, 22)
        self.assertEqual(stored(), [9, 5, 5, 8, 7])
        gather(low, 30, "same")
        gather(right, 30)
        self.assertEqual(stored(), [9, 5, 5, 9, 7])
        gather(right, 31, "same")
        gather(self.true, 31, "same")
        gather(right_low, 31)
        gather(middle, 31)
        gather(self.true, 31)
        self.assertEqual(stored(), [9] * 5)
        for span in spans:
            gather(span, 32, "same")

    def test_a_gather_without_halves(self):
        self.begin(needed=4)
        for height, answer, stored in ((10, "same", 0), (11, "ok", 1), (11, "same", 1), (13, "ok", 3), (20, "ok", 4),
                                       (30, "same", 4)):
            self.assertEqual(self.watched.do("eve", ("gather", self.true), height), answer)
            self.assertEqual(self.arena.stored(self.true), stored)

    def test_a_gather_takes_the_stored_counts_of_the_halves(self):
        self.begin(needed=40)
        self.lie(3, 12)
        left, right = self.watched.halve("ann", self.true, 14)
        self.watched.ok("eve", ("gather", left), 20)
        self.watched.ok("eve", ("gather", self.true), 20)
        # The right half was not gathered, so its stored count is 0.
        self.assertEqual(self.arena.stored(self.true), 2)
        self.watched.ok("eve", ("gather", right), 17 + 5)
        self.watched.ok("eve", ("gather", self.true), 22)
        self.assertEqual((self.arena.stored(left), self.arena.stored(right), self.arena.stored(self.true)), (6, 8, 8))
        self.assertEqual(self.arena.count(self.true, 22), 10)

    def test_a_gather_is_never_less(self):
        self.begin(needed=40)
        # The stored count of a span that had no rival stays when it gets one and is halved.
        self.watched.ok("eve", ("gather", self.true), 19)
        self.lie(3, 19)
        self.watched.halve("ann", self.true, 19)
        self.assertEqual(self.watched.do("eve", ("gather", self.true), 19), "same")
        self.assertEqual(self.arena.stored(self.true), 9)

    def test_a_gather_of_a_false_span(self):
        self.begin(needed=3)
        false = self.lie(3, 11)
        self.assertEqual(self.watched.do("eve", ("gather", false), 20), "same")
        left, right = self.watched.halve("bob", false, 20)
        for span in (left, right, false):
            self.watched.ok("eve", ("gather", span), 25)
        self.watched.ok("bob", ("close", false), 25)
        self.assertEqual(self.arena.confirmed(), false)

    def test_words_of_a_gather(self):
        self.begin(needed=3)
        left, right = halves_of(self.watched.notary, self.true)
        for span in (left, right, replaced(self.true, 4, 1), (0, 0, 0, 1, 1)):
            self.assertEqual(self.watched.do("eve", ("gather", span), 12), "unknown")
        self.watched.close(self.true, 14)
        # Closed comes ahead of unknown and same.
        for span in (self.true, left, (0, 0, 0, 1, 1)):
            self.assertEqual(self.watched.do("eve", ("gather", span), 15), "closed")


class CloseTest(unittest.TestCase):
    def test_a_closing(self):
        watched = Watched(self, needed=3)
        root = watched.claim("ann", ROW, 10)
        amounts = watched.amounts()
        self.assertEqual((watched.arena.confirmed(), watched.arena.closed_at()), (None, None))
        watched.ok("dan", ("gather", root), 13)
        self.assertEqual((watched.arena.confirmed(), watched.arena.closed_at()), (None, None))
        watched.ok("dan", ("close", root), 16)
        self.assertEqual((watched.arena.confirmed(), watched.arena.closed_at()), (root, 16))
        self.assertEqual(watched.amounts(), amounts)
        self.assertEqual(watched.arena.stakes(), 100)
        self.assertIs(watched.arena.is_shared(), False)

    def test_early(self):
        watched = Watched(self, needed=3)
        root = watched.claim("ann", ROW, 10)
        self.assertEqual(watched.do("dan", ("close", root), 10), "early")
        # The stored count is asked, not the count.
        self.assertEqual(watched.do("dan", ("close", root), 30), "early")
        watched = Watched(self, needed=3)
        root = watched.claim("ann", ROW, 10)
        watched.ok("dan", ("gather", root), 12)
        self.assertEqual(watched.do("dan", ("close", root), 13), "early")
        watched.ok("dan", ("gather", root), 13)
        watched.ok("dan", ("close", root), 13)

    def test_a_rivalled_span_may_be_closed(self):
        watched = Watched(self, needed=3)
        root = watched.claim("ann", ROW, 10)
        other = watched.claim("bob", (1, 2, 3, 4), 13)
        watched.ok("dan", ("gather", root), 13)
        self.assertEqual(watched.do("dan", ("close", other), 13), "early")
        watched.ok("dan", ("close", root), 13)
        self.assertEqual(watched.arena.confirmed(), root)

    def test_unknown(self):
        watched = Watched(self, needed=3)
        root = watched.claim("ann", ROW, 10)
        watched.ok("dan", ("gather", root), 13)
        for at in range(5):
            self.assertEqual(watched.do("dan", ("close", replaced(root, at, root[at] + 1)), 13), "unknown")
        # Unknown comes ahead of low and early.
        left, _ = halves_of(watched.notary, root)
        self.assertEqual(watched.do("dan", ("close", left), 13), "unknown")

    def test_low(self):
        watched = Watched(self, needed=3)
        root = watched.claim("ann", ROW, 10)
        watched.claim("bob", (1, 2, 3, 4), 11)
        left, right = watched.halve("ann", root, 12)
        # Low comes ahead of early.
        self.assertEqual([watched.do("dan", ("close", half), 12) for half in (left, right)], ["low", "low"])
        for half in (left, right):
            watched.ok("dan", ("gather", half), 20)
            self.assertEqual(watched.do("dan", ("close", half), 20), "low")
        watched.ok("dan", ("gather", root), 20)
        watched.ok("dan", ("close", root), 20)

    def test_a_root_span_of_level_0(self):
        watched = Watched(self, level=0, needed=3)
        root = watched.claim("ann", (21,), 10)
        watched.close(root, 13)
        self.assertEqual(watched.arena.confirmed(), root)

    def test_closed(self):
        watched = Watched(self, needed=3)
        root = watched.claim("ann", ROW, 10)
        other = watched.claim("bob", (1, 2, 3, 4), 13)
        watched.close(root, 13)
        # Closed comes ahead of unknown, low and early.
        for span in (root, other, (0, 0, 0, 1, 1), halves_of(watched.notary, root)[0]):
            self.assertEqual(watched.do("dan", ("close", span), 14), "closed")
        self.assertEqual(watched.arena.confirmed(), root)


if __name__ == "__main__":
    unittest.main()
