"""[9.3] and [9.5]: lies, forged rows, the sealing of rows, and halvings of anybody's claims."""

import unittest

from arenas import halving, replaced
from onewatcher.errors import BadRow
from onewatcher.histories import history_of, is_shaped, opening, row_of
from onewatcher.lies import cut_of, forged_row, lied_states, seal_row
from onewatcher.machine import first_state, step, trace
from onewatcher.papers import check_paper, make_paper
from onewatcher.seals import MAX_PART, WORD, Notary
from onewatcher.spans import halves_of, root_span
from onewatcher.states import question, state_seals
from truths import BUSY, WORDS, Stage

STOP = (("stop",),)


class LiedStatesTest(unittest.TestCase):
    def lie(self, at, spot, word, count=32):
        states = tuple(trace(BUSY, WORDS, first_state(), count))
        return states, lied_states(BUSY, WORDS, states, at, spot, word)

    def test_each_step_and_register(self):
        for at in (0, 1, 5, 17, 30, 31):
            for spot in range(4):
                for word in (0, 3, 99, WORD - 1):
                    states, lied = self.lie(at, spot, word)
                    self.assertIsInstance(lied, tuple)
                    self.assertEqual(len(lied), 32)
                    self.assertEqual(lied[:at], states[:at])
                    place, registers, memory, position, written, status = states[at]
                    self.assertEqual(lied[at], (place, replaced(registers, spot, word), memory, position, written,
                                                status))
                    for n in range(at + 1, 32):
                        self.assertEqual(lied[n], step(BUSY, WORDS, lied[n - 1]))

    def test_the_word_that_is_there(self):
        states, _ = self.lie(0, 0, 0)
        for at in (0, 9, 31):
            for spot in range(4):
                self.assertEqual(self.lie(at, spot, states[at][1][spot])[1], states)

    def test_behind_the_stop(self):
        states, lied = self.lie(40, 2, 77, count=64)
        self.assertEqual((states[39][5], states[40][5], states[63][5]), (1, 1, 1))
        self.assertEqual(lied[:40], states[:40])
        for n in range(40, 64):
            self.assertEqual(lied[n], (states[40][0], replaced(states[40][1], 2, 77)) + states[40][2:])

    def test_ahead_of_the_stop(self):
        # With another word the run goes another way: it stops earlier, or does not stop.
        states, lied = self.lie(0, 0, 0)
        self.assertEqual((states[4][5], lied[3][5]), (0, 1))

    def test_one_state(self):
        states = tuple(trace(STOP, (), first_state(), 1))
        self.assertEqual(lied_states(STOP, (), states, 0, 3, 9), ((0, (0, 0, 0, 9)) + states[0][2:],))


class RowTest(unittest.TestCase):
    def test_forged_rows(self):
        row = (4, 5, 6, 7)
        self.assertEqual([forged_row(row, at, 9) for at in range(4)],
                         [(9, 5, 6, 7), (4, 9, 6, 7), (4, 5, 9, 7), (4, 5, 6, 9)])
        self.assertEqual(forged_row((3,), 0, 8), (8,))
        self.assertEqual(forged_row(row, 2, 6), row)
        self.assertEqual(row, (4, 5, 6, 7))

    def test_sealed_rows(self):
        for level in range(11):
            notary = Notary()
            asked = question(notary, STOP, (), first_state(), level)
            row = tuple((n * 37 + 5) % 50 + 1 for n in range(1 << level))
            history = seal_row(notary, asked, row)
            self.assertEqual(row_of(notary, history, level), row)
            self.assertEqual(history, history_of(notary, row))
            size = notary.size()
            spans = [root_span(asked, history)]
            for span in spans:
                halves = halves_of(notary, span)
                if span[0] == 0:
                    self.assertIsNone(halves)
                    continue
                join = opening(notary, span[4])
                left, right = halves
                self.assertEqual(left, (span[0] - 1, span[1], span[2], span[3], join[1]))
                self.assertEqual(right[:2], (span[0] - 1, span[1] + (1 << span[0] - 1)))
                self.assertEqual(notary.find(("behind", span[2], join[1])), right[2])
                self.assertEqual(right[3:], (opening(notary, join[1])[-1], join[2]))
                spans += halves
            self.assertEqual(len(spans), (2 << level) - 1)
            self.assertEqual([span[4] for span in spans[-len(row):]], [notary.find(("step", n)) for n in row])
            self.assertEqual(notary.size(), size)

    def test_rows_of_numbers_that_are_no_seals(self):
        notary = Notary()
        asked = question(notary, STOP, (), first_state(), 2)
        history = seal_row(notary, asked, (MAX_PART, 1, MAX_PART, 2))
        self.assertTrue(is_shaped(notary, history, 2))
        self.assertIsNotNone(halves_of(notary, root_span(asked, history)))

    def test_rows_of_another_length(self):
        notary = Notary()
        asked = question(notary, STOP, (), first_state(), 2)
        for row in ((), (1, 2, 3), (0, 1), (1, MAX_PART + 1)):
            size = notary.size()
            with self.assertRaises(BadRow):
                seal_row(notary, asked, row)
            self.assertEqual(notary.size(), size)
        # A row that does not fit the question has a history all the same.
        for row in ((5,), (5, 6), (5, 6, 7, 8, 9, 1, 2, 3)):
            self.assertEqual(seal_row(notary, asked, row), history_of(notary, row))

    def test_papers_for_a_lie(self):
        # With its states and its row sealed, each of its steps but the false one can be shown.
        notary = Notary()
        asked = question(notary, BUSY, WORDS, first_state(), 4)
        states = tuple(trace(BUSY, WORDS, first_state(), 16))
        lied = lied_states(BUSY, WORDS, states, 5, 2, 99)
        row = state_seals(notary, lied)
        seal_row(notary, asked, row)
        size = notary.size()
        for n in range(1, 16):
            paper = make_paper(notary, BUSY, WORDS, lied[n - 1])
            self.assertEqual(check_paper(notary, asked, row[n - 1], paper) == row[n], n != 5)
        self.assertLessEqual(notary.size(), size + 1)


class CutTest(unittest.TestCase):
    def setUp(self):
        self.stage = Stage(self, level=2)
        self.notary = self.stage.notary
        self.arena = self.stage.arena

    def cut(self, span):
        return cut_of(self.notary, self.arena, span)

    def test_posted_spans_and_others(self):
        root = self.stage.true_claim(10)
        rival = self.stage.rival_claim(10, 1)
        self.assertEqual(self.cut(root), halving(self.notary, root))
        left, right = halves_of(self.notary, rival)
        # A span that is not posted, and one that is halved already.
        self.assertEqual(self.cut(left), halving(self.notary, left))
        self.stage.ok("cat", self.cut(rival), 11)
        self.assertEqual(self.cut(rival), halving(self.notary, rival))
        self.stage.ok("cat", self.cut(root), 11)
        for span in self.arena.unhalved():
            self.stage.ok("cat", self.cut(span), 12)
        self.assertIs(self.arena.is_halved(left), True)
        self.assertEqual(self.cut(right), halving(self.notary, right))

    def test_level_0(self):
        rival = self.stage.rival_claim(10, 1)
        low = halves_of(self.notary, halves_of(self.notary, rival)[0])[0]
        self.assertEqual(low[0], 0)
        self.assertIsNone(self.cut(low))
        # A history that opens as a join has no halves at level 0 either.
        self.assertIsNone(self.cut((0, 0, 0, rival[3], rival[4])))
        self.assertIsNone(self.cut((0, 0, 0, rival[3], history_of(self.notary, (5, 6)))))

    def test_histories_that_do_not_open(self):
        start = self.stage.run.start()
        sealed = (MAX_PART, self.notary.size() + 1, start, self.notary.seal(("join", 1, 2)),
                  self.notary.seal(("join", 0, 2, 3)), self.notary.seal(("step", 3)))
        for level in (1, 2, 10):
            for history in sealed:
                self.assertIsNone(self.cut((level, 0, 0, start, history)))

    def test_parts_that_do_not_open(self):
        start = self.stage.run.start()
        good = history_of(self.notary, (5, 6))
        low = history_of(self.notary, (7,))
        for left, right in ((good, MAX_PART), (MAX_PART, good), (start, good), (good, start)):
            self.assertIsNone(self.cut((2, 0, 0, start, self.notary.seal(("join", left, right, 6)))))
        for left, right in ((low, MAX_PART), (MAX_PART, low), (start, low), (low, start)):
            self.assertIsNone(self.cut((1, 0, 0, start, self.notary.seal(("join", left, right, 7)))))
        # Steps at level 1 and joins at level 0 are not what a level asks.
        for level, left, right, told in ((2, good, good, True), (2, low, good, False), (2, good, low, False),
                                         (1, low, low, True), (1, good, low, False), (1, low, good, False),
                                         (3, good, good, True), (1, good, good, False), (2, low, low, False)):
            span = (level, 0, 0, start, self.notary.seal(("join", left, right, self.notary.parts_of(right)[-1])))
            deed = self.cut(span)
            self.assertEqual(deed, halving(self.notary, span) if told else None)

    def test_it_changes_nothing(self):
        root = self.stage.true_claim(10)
        size, spans = self.notary.size(), self.arena.spans()
        for span in (root, (2, 0, 0, root[3], MAX_PART), (0,) + root[1:]):
            self.cut(span)
        self.assertEqual((self.notary.size(), self.arena.spans()), (size, spans))


if __name__ == "__main__":
    unittest.main()
