"""[10.4] and [10.5]: reasons, and their worth."""

import unittest

from arenas import halving, replaced, seen
from bridges import ODDITIES
from onewatcher.errors import BadArena
from onewatcher.reasons import full_reason, worth
from truths import Stage


class ReasonTest(unittest.TestCase):
    def setUp(self):
        # Root A true, root B false at step 0; the left halves are halved, the low true one is settled.
        self.stage = Stage(self, level=2, needed=9)
        self.arena, self.truth = self.stage.arena, self.stage.truth
        self.root = self.stage.true_claim(10)
        self.other = self.stage.rival_claim(12, 0)
        self.stage.halve_true(13)
        self.stage.ok("bob", halving(self.stage.notary, self.other), 14)
        self.stage.halve_true(16)
        self.false = self.arena.halves(self.other)
        self.stage.ok("bob", halving(self.stage.notary, self.false[0]), 17)
        self.stage.settle_true(20)
        self.left, self.right = self.arena.halves(self.root)
        self.low, self.next = self.arena.halves(self.left)

    def worth(self, reason, span=None, height=22):
        before = seen(self.arena)
        found = worth(self.arena, self.root if span is None else span, height, reason)
        self.assertEqual(seen(self.arena), before)
        return found

    def test_full_reasons(self):
        step = ("step", self.low)
        self.assertEqual(full_reason(self.arena, self.low, 22), step)
        self.assertEqual(full_reason(self.arena, self.next, 22), ("own", self.next, 6))
        left = ("half", self.left, 1, step, ("own", self.next, 6))
        self.assertEqual(full_reason(self.arena, self.left, 22), left)
        self.assertEqual(full_reason(self.arena, self.right, 22), ("own", self.right, 9))
        self.assertEqual(full_reason(self.arena, self.root, 22), ("half", self.root, 2, left, ("own", self.right, 9)))
        self.assertEqual(full_reason(self.arena, self.right, 30), ("own", self.right, 17))

    def test_the_worth_of_a_full_reason_is_the_count(self):
        for height in (20, 21, 25, 26, 40):
            for span in self.arena.spans():
                reason = full_reason(self.arena, span, height)
                self.assertEqual(self.worth(reason, span, height), self.arena.count(span, height))

    def test_all_heights_of_a_growing_arena(self):
        stage = Stage(self, level=3, needed=7)
        stage.true_claim(10)
        for height, at in ((10, 0), (12, 5), (15, 7), (15, 4)):
            stage.rival_claim(height, at)
            for span in stage.arena.unhalved():
                stage.ok("cat", halving(stage.notary, span), height)
            for later in (height, height + 1, height + 9):
                for span in stage.arena.spans():
                    reason = full_reason(stage.arena, span, later)
                    self.assertEqual(worth(stage.arena, span, later, reason), stage.arena.count(span, later))
                    self.assertLessEqual(str(reason).count("own") + str(reason).count("step"), 8)

    def test_lesser_numbers(self):
        self.assertEqual([self.worth(("own", self.right, n), self.right) for n in range(10)], list(range(10)))
        # A settled or halved span may have an own reason, too.
        self.assertEqual([self.worth(("own", self.root, n)) for n in range(4)], [0, 1, 2, None])
        self.assertEqual([self.worth(("own", self.low, n), self.low) for n in range(3)], [0, 1, None])
        own = ("own", self.right, 4)
        for n in range(3):
            reason = ("half", self.root, n, ("own", self.left, 1), own)
            self.assertEqual(self.worth(reason), n + 1)
            reason = ("half", self.root, n, ("half", self.left, 1, ("step", self.low), ("own", self.next, 2)), own)
            self.assertEqual(self.worth(reason), n + 3)
            reason = ("half", self.root, n, ("half", self.left, 1, ("step", self.low), ("own", self.next, 6)), own)
            self.assertEqual(self.worth(reason), n + 4)

    def test_the_worth_is_at_most_what_is_needed(self):
        self.assertEqual(self.worth(("own", self.right, 17), self.right, 30), 9)
        self.assertEqual(self.worth(("own", self.right, 9), self.right, 30), 9)
        reason = ("half", self.left, 1, ("step", self.low), ("own", self.next, 9))
        self.assertEqual(self.worth(reason, self.left, 30), 9)
        self.assertEqual(self.worth(("step", self.low), self.low), 9)
        self.assertEqual(self.worth(full_reason(self.arena, self.root, 30), self.root, 30), 9)

    def test_numbers_that_do_not_hold(self):
        for n in (10, 11, -1, -2, 2 ** 60) + ODDITIES:
            self.assertIsNone(self.worth(("own", self.right, n), self.right), n)
        left = full_reason(self.arena, self.left, 22)
        for n in (3, 4, -1) + ODDITIES:
            self.assertIsNone(self.worth(("half", self.root, n, left, ("own", self.right, 9))), n)
        for n in (7, -1, True):
            inner = ("half", self.left, 1, ("step", self.low), ("own", self.next, n))
            self.assertIsNone(self.worth(("half", self.root, 2, inner, ("own", self.right, 9))), n)

    def test_true_is_no_number(self):
        # True and False would be good numbers, if they were numbers.
        self.assertEqual(self.worth(("own", self.root, 1)), 1)
        self.assertIsNone(self.worth(("own", self.root, True)))
        self.assertIsNone(self.worth(("own", self.root, False)))

    def test_the_halves_exchanged(self):
        left, right = full_reason(self.arena, self.left, 22), ("own", self.right, 9)
        self.assertIsNone(self.worth(("half", self.root, 2, right, left)))
        self.assertIsNone(self.worth(("half", self.root, 2, left, left)))
        self.assertIsNone(self.worth(("half", self.root, 2, right, right)))

    def test_other_spans(self):
        right = ("own", self.right, 9)
        for span in (self.right, self.left, self.other, self.false[1], self.low):
            self.assertIsNone(self.worth(("own", span, 0)))
        self.assertIsNone(self.worth(("step", self.low), self.next))
        self.assertIsNone(self.worth(("step", self.next), self.low))
        # The halves of a rival are not those of the span.
        for half, number in zip(self.false, (0, 8)):
            self.assertEqual(self.worth(("own", half, number), half), number)
        left = full_reason(self.arena, self.left, 22)
        self.assertIsNone(self.worth(("half", self.root, 2, left, ("own", self.false[1], 8))))
        self.assertIsNone(self.worth(("half", self.root, 2, ("own", self.false[0], 0), right)))
        self.assertIsNone(self.worth(("half", self.other, 0, left, right), self.other))
        for at in range(5):
            span = replaced(self.right, at, self.right[at] + 1)
            self.assertIsNone(self.worth(("own", span, 0), self.right))
            self.assertIsNone(self.worth(("own", span, 0), span))
        for span in ODDITIES + (self.right[:4], self.right + (0,), 5):
            self.assertIsNone(self.worth(("own", span, 0), self.right))
        # Python takes False for 0.
        span = self.root[:1] + (False,) + self.root[2:]
        self.assertIsNone(self.worth(("own", span, 0)))

    def test_other_words(self):
        for word in ("Own", "steps", "", 1, None, True, ("own",), "gather"):
            self.assertIsNone(self.worth((word, self.root, 1)))
            self.assertIsNone(self.worth((word, self.low), self.low))
        left, right = full_reason(self.arena, self.left, 22), ("own", self.right, 9)
        self.assertIsNone(self.worth(("own", self.root, 2, left, right)))
        self.assertIsNone(self.worth(("half", self.root, 2)))
        self.assertIsNone(self.worth(("step", self.low, 1), self.low))
        self.assertIsNone(self.worth(("own", self.low), self.low))

    def test_a_part_less_and_more(self):
        for span in (self.root, self.left, self.right, self.low):
            reason = full_reason(self.arena, span, 22)
            self.assertIsNotNone(self.worth(reason, span))
            for other in (reason[:-1], reason + (0,), reason + (reason,), reason[1:], (reason,), list(reason)):
                self.assertIsNone(self.worth(other, span))

    def test_steps_and_halves_that_are_none(self):
        self.assertIsNone(self.worth(("step", self.next), self.next))
        self.assertIsNone(self.worth(("step", self.root)))
        self.assertIsNone(self.worth(("half", self.right, 0, ("own", self.right, 0), ("own", self.right, 0)),
                                     self.right))
        self.assertIsNone(self.worth(("half", self.low, 0, ("step", self.low), ("step", self.low)), self.low))
        # Spans that would be the halves, but nobody has halved.
        spans = [self.truth.true_span(0, 2), self.truth.true_span(0, 3)]
        self.assertIsNone(self.worth(("half", self.right, 0) + tuple(("own", span, 0) for span in spans), self.right))

    def test_any_value(self):
        value = ()
        rows = list(ODDITIES) + [7, "own", ("own",), ("half",), ("own", None), ("own", self.root)]
        for _ in range(12):
            rows.append(value)
            rows.append(("half", self.root, 2, value, value))
            value = (value,)
        for reason in rows:
            self.assertIsNone(self.worth(reason), reason)
        left = full_reason(self.arena, self.left, 22)
        for part in rows:
            self.assertIsNone(self.worth(("half", self.root, 2, left, part)))
            self.assertIsNone(self.worth(("half", self.root, 2, part, ("own", self.right, 9))))

    def test_spans_that_are_not_posted(self):
        for span in (self.truth.true_span(0, 2), self.root[:4] + (self.root[4] + 1,), (2, 0, 0, 1, 1)):
            for reason in (("own", span, 0), ("step", span), None, ("half", span, 0, ("own", span, 0), ("own", span, 0))):
                self.assertIsNone(self.worth(reason, span))
            with self.assertRaises(BadArena):
                full_reason(self.arena, span, 22)

    def test_a_closed_arena(self):
        self.stage.gather_true(30)
        self.stage.ok("ann", ("close", self.root), 30)
        for height in (30, 31, 60):
            for span in self.arena.spans():
                reason = full_reason(self.arena, span, height)
                self.assertEqual(self.worth(reason, span, height), self.arena.count(span, height))


if __name__ == "__main__":
    unittest.main()
