"""[6.5] and [8.1]: true spans, and the deeds of a truth."""

import unittest

from arenas import halving, joins_to, replaced
from bridges import ODDITIES
from onewatcher.histories import history_of, opening
from onewatcher.machine import first_state, step
from onewatcher.papers import check_paper, make_paper
from onewatcher.seals import MAX_PART, Notary
from onewatcher.spans import is_span, root_span
from onewatcher.states import Run
from onewatcher.truth import Truth
from truths import BUSY, WORDS, Stage


def span_by_words(notary, run, level, first):
    """The true span by the words of [6.3] and [8.1], from the row of the run."""
    row = run.seals()
    before, low, high = 0, 0, len(row)
    while high - low > 1 << level:
        middle = (low + high) // 2
        if first >= middle:
            before = notary.seal(("behind", before, history_of(notary, row[low:middle])))
            low = middle
        else:
            high = middle
    start = run.start() if first == 0 else row[first - 1]
    return (level, first, before, start, history_of(notary, row[low:high]))


class TrueSpanTest(unittest.TestCase):
    def test_each_level_and_first_step(self):
        for level in (0, 1, 2, 3, 5):
            stage = Stage(self, level=level)
            truth = stage.truth
            for lower in range(level + 1):
                for first in range(0, 1 << level, 1 << lower):
                    span = truth.true_span(lower, first)
                    self.assertEqual(span, span_by_words(stage.notary, stage.run, lower, first))
                    self.assertTrue(is_span(span))
                    self.assertIs(truth.is_true(span), True)
            self.assertEqual(truth.root(), truth.true_span(level, 0))
            self.assertEqual(truth.root(), root_span(stage.question, history_of(stage.notary, stage.run.seals())))
            self.assertEqual(truth.question(), stage.run.question())

    def test_the_greatest_level(self):
        stage = Stage(self, level=10)
        for lower, first in ((10, 0), (9, 0), (9, 512), (5, 992), (0, 0), (0, 1), (0, 513), (0, 1022), (0, 1023)):
            self.assertEqual(stage.truth.true_span(lower, first),
                             span_by_words(stage.notary, stage.run, lower, first))
        for lower, first in ((0, 1024), (10, 1), (10, 1024), (9, 256), (11, 0)):
            self.assertIsNone(stage.truth.true_span(lower, first))

    def test_numbers_that_are_none(self):
        truth = Stage(self, level=3).truth
        for level, first in ((1, 1), (1, 3), (2, 2), (2, 5), (3, 4), (3, 1), (0, 8), (1, 8), (3, 8), (2, 2 ** 48),
                             (0, -1), (1, -2), (3, -8), (-1, 0), (-1, 4), (4, 0), (10, 0), (11, 0), (2 ** 48, 0)):
            self.assertIsNone(truth.true_span(level, first), (level, first))
        for value in (True, False, None, "1", (0,)):
            self.assertIsNone(truth.true_span(value, 0))
            self.assertIsNone(truth.true_span(0, value))

    def test_a_run_from_another_state(self):
        state = first_state()
        for _ in range(7):
            state = step(BUSY, WORDS, state)
        stage = Stage(self, level=3, state=state)
        self.assertEqual(stage.truth.true_span(0, 0)[3], stage.run.start())
        for lower in range(4):
            for first in range(0, 8, 1 << lower):
                self.assertEqual(stage.truth.true_span(lower, first),
                                 span_by_words(stage.notary, stage.run, lower, first))

    def test_a_run_that_stands_still(self):
        # All states behind the stop are the same, and so are their histories; `before` tells the spans apart.
        stage = Stage(self, level=4, program=(("stop",),), words=())
        spans = stage.all_spans()
        self.assertEqual(len({span for span in spans}), 31)
        self.assertEqual(stage.truth.true_span(0, 5)[4], stage.truth.true_span(0, 9)[4])
        self.assertIs(stage.truth.is_true(replaced(stage.truth.true_span(0, 5), 1, 9)), False)

    def test_two_truths_of_one_notary(self):
        notary = Notary()
        one = Truth(notary, Run(notary, BUSY, (5, 6), first_state(), 4))
        other = Truth(notary, Run(notary, BUSY, (5, 7), first_state(), 4))
        again = Truth(notary, Run(notary, BUSY, (5, 6), first_state(), 4))
        self.assertEqual(one.root(), again.root())
        self.assertNotEqual(one.root(), other.root())
        self.assertIs(one.is_true(again.true_span(1, 4)), True)
        self.assertIs(one.is_true(other.root()), False)


class IsTrueTest(unittest.TestCase):
    def test_one_element_exchanged(self):
        stage = Stage(self, level=3)
        for span in stage.all_spans():
            for at in range(5):
                for value in (span[at] + 1, span[at] - 1, 0, 1, MAX_PART, 1023) + ODDITIES:
                    other = replaced(span, at, value)
                    same = isinstance(value, int) and not isinstance(value, bool) and value == span[at]
                    self.assertIs(stage.truth.is_true(other), same, other)

    def test_spans_that_differ_in_more(self):
        stage = Stage(self, level=3)
        spans = stage.all_spans()
        for one in spans:
            for other in spans:
                for at in range(1, 5):
                    mixed = one[:at] + other[at:]
                    self.assertIs(stage.truth.is_true(mixed), mixed in spans)

    def test_any_value(self):
        truth = Stage(self, level=0).truth
        span = truth.root()
        self.assertIs(truth.is_true(span), True)
        for value in ODDITIES + (span[:4], span + (1,), (span,), list(span), "span", 7, (0,) * 5, (None,) * 5,
                                 (False, 0) + span[2:], (0, False) + span[2:], (0, 0, False) + span[3:]):
            self.assertIs(truth.is_true(value), False, value)
        value = ()
        for _ in range(12):
            self.assertIs(truth.is_true(value), False)
            value = (value, 0, 0, 1, 1)

    def test_false_rows(self):
        stage = Stage(self, level=2)
        arena = stage.arena
        stage.true_claim(10)
        roots = [stage.rival_claim(10, 0), stage.rival_claim(10, 3)]
        for root in roots:
            for level in (2, 1):
                for span in arena.unhalved():
                    stage.ok("bob", halving(stage.notary, span), 11)
        true = stage.all_spans()
        self.assertEqual([stage.truth.is_true(span) for span in arena.spans()],
                         [span in true for span in arena.spans()])
        # The part of a false claim whose past is right, and one whose past is wrong though its states are right.
        left, right = arena.halves(roots[1])
        self.assertEqual((stage.truth.is_true(left), stage.truth.is_true(right)), (True, False))
        left, right = arena.halves(roots[0])
        self.assertEqual(right[4], stage.truth.true_span(1, 2)[4])
        self.assertEqual((stage.truth.is_true(left), stage.truth.is_true(right)), (False, False))


class DeedTest(unittest.TestCase):
    def test_halvings(self):
        stage = Stage(self, level=3)
        for span in stage.all_spans():
            deed = stage.truth.halving(span)
            if span[0] == 0:
                self.assertIsNone(deed)
            else:
                self.assertEqual(deed, halving(stage.notary, span))

    def test_papers(self):
        stage = Stage(self, level=4)
        notary, run = stage.notary, stage.run
        for span in stage.all_spans():
            deed = stage.truth.paper(span)
            if span[0] > 0:
                self.assertIsNone(deed)
                continue
            first = span[1]
            self.assertEqual(deed[:3], ("paper", span, run.seals()[first]))
            self.assertEqual(deed[3], make_paper(notary, BUSY, WORDS, run.state_at(first)))
            self.assertEqual(check_paper(notary, run.question(), span[3], deed[3]), run.seals()[first])

    def test_showings(self):
        for level in (0, 1, 3):
            stage = Stage(self, level=level)
            for span in stage.all_spans():
                joins = joins_to(stage.notary, stage.truth.root()[4], level, span)
                self.assertEqual(stage.truth.showing(span), ("show", span, joins))
            self.assertEqual(stage.truth.showing(stage.truth.root()), ("show", stage.truth.root(), ()))

    def test_spans_that_are_not_true(self):
        stage = Stage(self, level=2)
        for span in stage.all_spans():
            for at in range(5):
                other = replaced(span, at, span[at] + 1)
                self.assertIsNone(stage.truth.halving(other))
                self.assertIsNone(stage.truth.paper(other))
                self.assertIsNone(stage.truth.showing(other))

    def test_all_is_sealed_that_a_checker_asks_about(self):
        for level in (0, 1, 3, 5):
            stage = Stage(self, level=level)
            notary = stage.notary
            size = notary.size()
            for span in stage.all_spans():
                for deed in (stage.truth.halving(span), stage.truth.paper(span), stage.truth.showing(span)):
                    if deed is not None and deed[0] == "paper":
                        self.assertNotEqual(notary.find(("step", deed[2])), 0)
                        self.assertEqual(check_paper(notary, stage.question, span[3], deed[3]), deed[2])
                if span[0] > 0:
                    self.assertNotEqual(notary.find(("behind", span[2], opening(notary, span[4])[1])), 0)
            self.assertEqual(notary.size(), size)

    def test_the_arena_takes_each_deed_when_it_is_due(self):
        for level in (0, 1, 2, 3):
            stage = Stage(self, level=level, needed=4, window=3, half_stake=1)
            arena = stage.arena
            stage.true_claim(10)
            # A rival for each span: each of them is false at one step only.
            for at in range(1 << level):
                stage.rival_claim(10, at)
            for height in range(11, 11 + level):
                for span in arena.unhalved():
                    if stage.truth.is_true(span):
                        stage.ok("ann", stage.truth.halving(span), height)
                    else:
                        stage.ok("bob", halving(stage.notary, span), height)
            spans = stage.all_spans()
            self.assertTrue(all(arena.is_rivalled(span) for span in spans))
            stage.settle_true(20)
            self.assertTrue(all(arena.is_settled(span) for span in spans if span[0] == 0))
            stage.gather_true(21)
            stage.ok("ann", ("close", spans[0]), 21)
            for span in spans:
                if span[0] > 0:
                    stage.ok("ann", stage.truth.showing(span), 24)
                else:
                    self.assertEqual(stage.do("ann", stage.truth.showing(span), 24), "unknown")
            stage.ok("ann", ("share",), 25)
            self.assertEqual(stage.accounts.amount("purse"), 0)
            self.assertEqual(stage.accounts.amount("ann"), 1000 + (1000 - stage.accounts.amount("bob")))


if __name__ == "__main__":
    unittest.main()
