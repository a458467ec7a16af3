"""[9.2] and [9.3]: the acts of players, and blocks and turning back."""

import unittest

from arenas import halving, nested, seal_row
from bridges import BACK, ODDITIES
from onewatcher.histories import history_of, row_of
from onewatcher.lies import cut_of, forged_row, lied_states
from onewatcher.machine import first_state, trace
from onewatcher.papers import check_paper, make_paper
from onewatcher.seals import MAX_PART, WORD
from onewatcher.spans import halves_of
from onewatcher.states import Run, state_seals
from worlds import Observed


class ActTest(unittest.TestCase):
    def begin(self, ask=True, **more):
        self.seen = Observed(self, **more)
        self.world, self.notary, self.ledger = self.seen.world, self.seen.notary, self.seen.ledger
        if ask:
            self.seen.ask()

    def sent(self, *act):
        """The deeds that a player's act sends."""
        self.seen.act(*act)
        for sender, _ in self.seen.held:
            self.assertEqual(sender, act[1])
        return [deed for _, deed in self.seen.held]

    def nothing(self, act):
        """An act that does nothing."""
        head, letters = self.ledger.head(), self.seen.letters()
        pool = self.ledger.pool()
        self.assertEqual(self.world.act(act), ())
        self.assertEqual((self.ledger.head(), self.seen.letters(), self.ledger.pool()), (head, letters, pool))

    def lied(self, at, spot, word, number=1):
        """The seals of the states of a lie."""
        run = self.world.run_of(number)
        states = tuple(trace(run.program(), run.words(), first_state(), len(run.seals())))
        return state_seals(self.notary, lied_states(run.program(), run.words(), states, at, spot, word))

    # Sending

    def test_any_deed(self):
        self.begin(ask=False)
        for deed in ODDITIES + (("put", 1, 2), ("ask",), ("arena", 7, None), 5, "ask", nested(12), -2 ** 60):
            self.assertEqual(self.sent("send", "eve", deed), [deed])
        self.assertEqual(set(self.seen.act("block", ())), set())
        self.assertEqual(len(self.seen.act("block", ())), len(self.seen.letters()))

    def test_anybody_may_send(self):
        self.begin(ask=False)
        for name in ("ann", "nobody", "a", "abcdefghijkl", "vault", "purse1", "block"):
            self.assertEqual(self.sent("send", name, ("put", 5, 5)), [("put", 5, 5)])
        self.assertEqual(self.seen.act("block", (1, 2)), ("ok", "stranger"))

    def test_acts_of_the_watcher(self):
        self.begin()
        self.world.act(("forge", "eve", 1, 1))
        self.world.act(("block", tuple(letter[0] for letter in self.seen.pool())))
        for act in (("send", "wat", ("ask",)), ("lie", "wat", 1, 1, 9), ("forge", "wat", 1, 9), ("cut", "wat"),
                    ("paper", "wat"), ("gather", "wat")):
            self.nothing(act)

    def test_without_an_open_question(self):
        self.begin(ask=False, level=4, patience=1)
        acts = (("lie", "eve", 0, 0, 9), ("forge", "eve", 0, 9), ("cut", "eve"), ("paper", "eve"), ("gather", "eve"))
        for act in acts:
            self.nothing(act)
        self.seen.act("send", "ann", ("put", 5, 5))
        self.seen.act("block", ())
        for act in acts:
            self.nothing(act)
        self.seen.ask(("bob", 1, 1))
        self.assertEqual(len(self.sent("forge", "eve", 0, 9)), 1)
        # A question that was paid is not open, though its arena is still there.
        while self.seen.bridge().open_number() == 1:
            self.seen.act("block", ())
        for act in acts:
            self.nothing(act)

    # Claims

    def test_lies(self):
        for level in (0, 1, 4):
            self.begin(level=level)
            last = (1 << level) - 1
            for at, spot, word in ((0, 0, 5), (last, 3, WORD - 1), (last // 2, 1, 0), (0, 2, 0)):
                deeds = self.sent("lie", "eve", at, spot, word)
                self.assertEqual(deeds, [("arena", 1, ("claim", history_of(self.notary, self.lied(at, spot, word))))])

    def test_a_lie_is_sealed(self):
        self.begin(level=4)
        deed = self.sent("lie", "eve", 5, 2, 99)[0]
        history = deed[2][1]
        size = self.notary.size()
        run, question = self.world.run_of(1), self.seen.arena().question()
        row = row_of(self.notary, history, 4)
        self.assertEqual((row[:5], row[5] == run.seals()[5]), (run.seals()[:5], False))
        spans = [(4, 0, 0, run.start(), history)]
        for span in spans:
            if span[0] > 0:
                self.assertIsNotNone(halves_of(self.notary, span))
                spans += halves_of(self.notary, span)
        states = tuple(trace(BACK, run.words(), first_state(), 16))
        lied = lied_states(BACK, run.words(), states, 5, 2, 99)
        for n in range(6, 16):
            paper = make_paper(self.notary, BACK, run.words(), lied[n - 1])
            self.assertEqual(check_paper(self.notary, question, row[n - 1], paper), row[n])
        self.assertEqual(self.notary.size(), size)

    def test_lies_that_cannot_be(self):
        self.begin(level=3)
        for numbers in ((8, 0, 0), (9, 0, 0), (MAX_PART, 0, 0), (-1, 0, 0), (0, 4, 0), (0, 5, 0), (0, MAX_PART, 0),
                        (0, -1, 0), (0, 0, WORD), (0, 0, MAX_PART), (0, 0, -1), (8, 4, WORD)):
            self.nothing(("lie", "eve") + numbers)
        for value in ODDITIES:
            if value != -1:
                self.nothing(("lie", "eve", value, 0, 0))
                self.nothing(("lie", "eve", 0, value, 0))
                self.nothing(("lie", "eve", 0, 0, value))
        self.assertEqual(len(self.sent("lie", "eve", 7, 3, WORD - 1)), 1)

    def test_forged_rows(self):
        for level in (0, 1, 4):
            self.begin(level=level)
            last = (1 << level) - 1
            for at, number in ((0, 0), (last, MAX_PART), (last // 2, 7)):
                deeds = self.sent("forge", "eve", at, number)
                seal = self.notary.find(("forged", number))
                self.assertNotEqual(seal, 0)
                row = forged_row(self.world.run_of(1).seals(), at, seal)
                size = self.notary.size()
                self.assertEqual(deeds, [("arena", 1, ("claim", seal_row(self.notary, None, row)))])
                self.assertEqual(self.notary.size(), size)

    def test_forged_rows_that_cannot_be(self):
        self.begin(level=3)
        size = self.notary.size()
        for numbers in ((8, 0), (MAX_PART, 0), (-1, 0), (0, -1), (0, MAX_PART + 1), (0, 2 ** 60)):
            self.nothing(("forge", "eve") + numbers)
        for value in ODDITIES:
            self.nothing(("forge", "eve", 0, value))
            self.nothing(("forge", "eve", value, 0))
        self.assertEqual(self.notary.size(), size)

    def test_claims_are_for_the_open_question(self):
        self.begin(level=4, patience=1)
        self.world.settle(60)
        self.seen.ask(("bob", 7, 7))
        for act in (("lie", "eve", 3, 0, 9), ("forge", "eve", 3, 9)):
            deed = self.sent(*act)[0]
            self.assertEqual(deed[:2], ("arena", 2))
        row = self.lied(3, 0, 9, number=2)
        self.assertEqual(self.sent("lie", "eve", 3, 0, 9), [("arena", 2, ("claim", history_of(self.notary, row)))])

    # Halvings, papers and gathers

    def stage(self, *forged, level=2, lies=(), **more):
        """A question with claims that are false at these steps, and the true one, in one block."""
        self.begin(level=level, **more)
        for at in forged:
            self.sent("forge", "eve", at, 1)
        for lie in lies:
            self.sent("lie", "eve", *lie)
        self.seen.act("block", tuple(letter[0] for letter in self.seen.pool()))
        return self.seen.arena().spans()

    def test_cuts(self):
        roots = self.stage(0, 2)
        self.assertEqual(roots[0], self.seen.truth().root())
        self.assertEqual(self.sent("cut", "mal"), [("arena", 1, halving(self.notary, span)) for span in roots])
        self.seen.act("block", (self.seen.pool()[-1][0],))
        self.assertEqual(self.sent("cut", "mal"), [("arena", 1, halving(self.notary, span)) for span in roots[:2]])
        self.seen.block("mal")
        # In the order of posting: the last root was halved first.
        spans = self.seen.arena().spans()[3:]
        self.assertEqual([span[:2] for span in spans], [(1, 0), (1, 2), (1, 2), (1, 0), (1, 2)])
        arena = self.seen.arena()
        waiting = [span for span in spans if arena.is_rivalled(span)]
        self.assertEqual(len(waiting), 4)
        deeds = self.sent("cut", "mal")
        self.assertEqual(deeds, [("arena", 1, halving(self.notary, span)) for span in waiting])
        self.assertEqual(deeds, [("arena", 1, cut_of(self.notary, arena, span)) for span in waiting])

    def test_cuts_of_histories_that_do_not_open(self):
        self.begin(level=2)
        low = history_of(self.notary, (5, 6))
        for history in (MAX_PART, low, self.notary.seal(("join", low, MAX_PART, 6)), history_of(self.notary, (1,) * 8)):
            self.sent("send", "eve", ("arena", 1, ("claim", history)))
        self.seen.act("block", tuple(letter[0] for letter in self.seen.pool()))
        root = self.seen.truth().root()
        self.assertEqual(len(self.seen.arena().unhalved()), 5)
        # A history of another level has parts that do not open as they must.
        self.assertEqual(self.sent("cut", "mal"), [("arena", 1, halving(self.notary, root)),
                                                   ("arena", 1, halving(self.notary, (2, 0, 0, root[3], history)))])

    def test_nothing_to_cut(self):
        self.stage()
        for act in ("cut", "paper"):
            self.nothing((act, "mal"))
        self.stage(1, level=1)
        self.seen.act("cut", "mal")
        self.seen.block("mal")
        self.nothing(("cut", "mal"))

    def cut_down(self):
        """Halve all that can be halved, down to level 0; the watcher's letters wait."""
        while self.seen.arena().unhalved():
            self.seen.act("cut", "mal")
            self.seen.block("mal")

    def papers_of(self, spans, states, run):
        """The papers of these spans, by the words of [9.3]."""
        deeds = []
        for span in spans:
            for state in states:
                behind = trace(run.program(), run.words(), state, 1)[0]
                seals = state_seals(self.notary, (state,)) + state_seals(self.notary, (behind,))
                if seals[0] == span[3] and span[4] == self.notary.find(("step", seals[1])):
                    paper = make_paper(self.notary, run.program(), run.words(), state)
                    deeds.append(("arena", 1, ("paper", span, seals[1], paper)))
                    break
        return deeds

    def test_papers_of_the_plain_run(self):
        self.stage(0, 2, patience=9)
        self.cut_down()
        arena, run = self.seen.arena(), self.world.run_of(1)
        waiting = arena.unsettled()
        states = [run.state_at(n) for n in range(5)]
        deeds = self.sent("paper", "mal")
        self.assertEqual(deeds, self.papers_of(waiting, states, run))
        self.assertEqual([deed[2][1][1] for deed in deeds], [0, 2])
        self.assertTrue(all(self.seen.truth().is_true(deed[2][1]) for deed in deeds))
        self.assertEqual(self.seen.act("block", (self.seen.pool()[-1][0],)), ("ok",))
        # What is settled is not shown again.
        self.assertEqual(self.sent("paper", "mal"), deeds[:1])
        self.assertEqual(self.seen.block("mal"), ("ok", "done"))
        self.nothing(("paper", "mal"))

    def test_papers_of_a_lie(self):
        # Two lies that go on together behind step 1, and part at step 6 again.
        self.stage(level=3, lies=((1, 3, 50), (1, 3, 60)), patience=9)
        self.cut_down()
        run = self.world.run_of(1)
        plain = tuple(run.state_at(n) for n in range(9))
        states = list(plain)
        for word in (50, 60):
            states += lied_states(BACK, run.words(), plain[1:], 1, 3, word)
        waiting = self.seen.arena().unsettled()
        deeds = self.sent("paper", "mal")
        self.assertEqual(deeds, self.papers_of(waiting, states, run))
        # Only the true span at the false step can be shown there.
        self.assertEqual([deed[2][1][1] for deed in deeds], [1])
        self.assertEqual(set(self.seen.block("mal")), {"ok"})

    def test_papers_of_two_lies_that_share_their_past(self):
        # The second lie is made of the first one's row by hand: it is false at step 3 besides.
        self.begin(level=2, patience=9)
        self.sent("lie", "eve", 1, 3, 50)
        row = self.lied(1, 3, 50)
        self.sent("send", "eve", ("arena", 1, ("claim", seal_row(self.notary, None, forged_row(row, 3, 1)))))
        self.seen.act("block", tuple(letter[0] for letter in self.seen.pool()))
        self.cut_down()
        run = self.world.run_of(1)
        plain = tuple(run.state_at(n) for n in range(5))
        states = plain + lied_states(BACK, run.words(), plain[1:], 1, 3, 50)
        deeds = self.sent("paper", "mal")
        self.assertEqual(deeds, self.papers_of(self.seen.arena().unsettled(), states, run))
        shown = [deed[2][1] for deed in deeds]
        # The lie can show its own step 3, the seal of which was never met in the plain run.
        self.assertEqual(sorted(span[1] for span in shown), [1, 3])
        self.assertEqual([self.seen.truth().is_true(span) for span in sorted(shown, key=lambda span: span[1])],
                         [True, False])
        self.assertEqual(self.seen.block("mal"), ("ok", "ok"))

    def lie_and_ask_again(self, again):
        """A lie of a question that is taken back; then another one with the same number is asked."""
        self.begin(ask=False, level=2, patience=9)
        self.seen.act("send", "ann", ("put", 50, 1))
        self.seen.act("send", "ann", ("put", 50, again))
        self.seen.act("send", "ann", ("ask",))
        self.seen.act("block", (1, 3))
        self.seen.act("lie", "eve", 1, 3, 50)
        row = self.lied(1, 3, 50)
        self.seen.act("back", 1)
        self.seen.act("block", (2, 3))
        row = forged_row(row, 3, 1)
        plain = self.world.run_of(1).seals()
        for false in (row, forged_row(row, 3, 2), plain):
            history = seal_row(self.notary, None, false)
            self.seen.act("send", "eve", ("arena", 1, ("claim", history)))
        self.seen.block("eve")
        self.cut_down()
        return self.sent("paper", "mal")

    def test_papers_of_a_lie_of_another_question_with_this_number(self):
        # The false step 3 of the lie can be shown only by who has met its states, for a question with these entries.
        self.assertEqual([deed[2][1][1] for deed in self.lie_and_ask_again(1)], [3, 1])
        self.assertEqual([deed[2][1][1] for deed in self.lie_and_ask_again(2)], [1])

    def test_gathers(self):
        roots = self.stage(1, needed=9)
        self.seen.act("cut", "mal")
        self.seen.block("mal")
        spans = self.seen.arena().spans()
        deeds = [("arena", 1, ("gather", span)) for span in reversed(spans)]
        self.assertEqual(self.sent("gather", "mal"), deeds)
        self.assertEqual(spans[:2], roots)

    def test_gathers_and_closings(self):
        self.begin(level=2, needed=7, patience=2)
        root = self.seen.truth().root()
        self.seen.block("wat")
        made = self.ledger.head()
        gather, close = ("arena", 1, ("gather", root)), ("arena", 1, ("close", root))
        self.seen.wait(6)
        self.assertEqual((self.ledger.head(), self.sent("gather", "mal")), (made + 6, [gather]))
        self.seen.act("back", 0)
        self.seen.wait(1)
        self.assertEqual(self.sent("gather", "mal"), [gather, close])
        self.seen.wait(1)
        self.assertEqual(self.sent("gather", "mal"), [gather, close])
        self.assertEqual(self.seen.block("mal")[-2:], ("closed", "closed"))
        # The arena is closed, but the question is open as long as it is not paid.
        self.assertEqual(self.sent("gather", "mal"), [gather, close])

    def test_closings_in_the_order_of_posting(self):
        # With a needed count of 1 there may be several roots whose count is enough.
        self.begin(level=1, needed=1, patience=2)
        self.seen.check_whole = lambda: None
        for at in (0, 1):
            self.sent("forge", "eve", at, 1)
            self.seen.block("eve")
            self.seen.wait(2)
        spans = self.seen.arena().spans()
        roots = [span for span in spans if span[0] == 1]
        self.seen.act("cut", "mal")
        self.seen.block("mal")
        self.seen.act("paper", "mal")
        self.seen.wait(3)
        arena = self.seen.arena()
        enough = [span for span in roots if arena.count(span, self.ledger.head()) == 1]
        deeds = [("gather", span) for span in reversed(arena.spans())] + [("close", span) for span in enough]
        self.assertEqual(self.sent("gather", "mal"), [("arena", 1, deed) for deed in deeds])
        self.assertGreater(len(enough), 1)

    # Blocks and turning back

    def test_blocks(self):
        self.begin(ask=False, patience=3)
        for n in range(5):
            self.seen.act("send", "ann", ("put", 1 + n, n))
        self.assertEqual(self.seen.act("block", (4, 99, 2, 4, 0, 2, MAX_PART)), ("ok", "ok"))
        self.assertEqual([letter[0] for letter in self.ledger.blocks()[0]], [4, 2])
        self.assertEqual(self.seen.act("block", (4, 2)), ())
        self.assertEqual(self.seen.act("block", (5,)), ("ok", "ok", "ok"))
        self.assertEqual([letter[0] for letter in self.ledger.blocks()[2]], [5, 1, 3])
        # A number below 0 is as unknown as any other.
        self.seen.act("send", "ann", ("put", 9, 9))
        self.assertEqual(self.seen.act("block", (-1, 6)), ("ok",))

    def test_turning_back(self):
        self.begin(ask=False, patience=2)
        for n in range(4):
            self.seen.act("send", "ann", ("put", 1 + n, n))
            self.seen.act("block", (n + 1,))
        for count in (5, 6, MAX_PART, -1, -4):
            self.nothing(("back", count))
        self.seen.act("back", 0)
        self.assertEqual(self.ledger.head(), 4)
        self.seen.act("back", 1)
        self.assertEqual((self.ledger.head(), len(self.seen.pool())), (3, 1))
        self.seen.act("back", 3)
        self.assertEqual((self.ledger.head(), len(self.seen.pool())), (0, 4))
        self.nothing(("back", 1))
        self.seen.check_anew()

    def test_values_that_are_no_acts(self):
        self.begin()
        rows = list(ODDITIES) + ["block", "back", 7, nested(12)]
        rows += [("block",), ("block", 1), ("block", (1,), 2), ("block", [1]), ("block", (True,)), ("block", (None,)),
                 ("block", "1"), ("block", ((1,),)), ("back",), ("back", True), ("back", False), ("back", None),
                 ("back", "1"), ("back", (1,)), ("back", 1, 1), ("send", "ann"), ("send", "ann", 1, 2), ("cut",),
                 ("cut", "eve", 1), ("paper", None), ("gather", 5), ("lie", "eve", 1, 1), ("forge", "eve", 1),
                 ("forge", "eve", 1, 1, 1), ("puts", "ann", 1, 2), ("", "ann"), ("asks", "ann"), (("cut",), "eve")]
        for name in ("", "Eve", "e_e", "0eve", "abcdefghijklm", "eve ", None, True, 5, ("eve",), ()):
            rows += [("send", name, ("ask",)), ("forge", name, 1, 1), ("gather", name)]
        for act in rows:
            self.nothing(act)

    def test_play(self):
        self.begin(ask=False)
        acts = (("send", "ann", ("put", 50, 1)), ("block", (1,)), ("send", "ann", ("ask",)), ("cut", "eve"),
                ("block", (2,)), ("forge", "eve", 1, 1), ("back", 1))
        self.assertIsNone(self.world.play(acts))
        self.assertIsNone(self.world.play(()))
        other = Observed(self)
        for act in acts:
            other.act(*act)
        self.assertEqual(self.ledger.pool(), other.ledger.pool())
        self.assertEqual(self.world.outcome(), other.world.outcome())

    def test_the_plain_run(self):
        self.begin(level=4)
        run = self.world.run_of(1)
        same = Run(self.notary, BACK, (0, 50, 1), first_state(), 4)
        self.assertEqual((run.question(), run.seals(), run.words()), (same.question(), same.seals(), (0, 50, 1)))
        for number in (-1, 0, 2, 3):
            self.assertIsNone(self.world.run_of(number))


if __name__ == "__main__":
    unittest.main()
