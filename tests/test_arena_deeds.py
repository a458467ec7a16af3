"""[6.11] to [6.13], and [6.18]: claims, halvings and papers."""

import unittest

from arenas import NAMES, Watched, halving, part_of, replaced, seal_row
from onewatcher.histories import history_of, opening
from onewatcher.machine import first_state, step
from onewatcher.papers import make_paper
from onewatcher.seals import Notary
from onewatcher.spans import halves_of
from onewatcher.states import Run, state_seal

ROW = (21, 22, 23, 24)
OTHER = (21, 22, 25, 24)


class ClaimTest(unittest.TestCase):
    def test_a_claim(self):
        watched = Watched(self)
        history = history_of(watched.notary, ROW)
        watched.ok("ann", ("claim", history), 12)
        root = (2, 0, 0, watched.question[4], history)
        arena = watched.arena
        self.assertEqual(arena.spans(), [root])
        self.assertEqual((arena.made(root), arena.payer(root), arena.stakes()), (12, "ann", 100))
        self.assertIs(arena.is_rivalled(root), False)
        self.assertIsNone(arena.halver(root))
        self.assertEqual(watched.amounts(), (900, 1000, 1000, 0, 100))

    def test_several_claims(self):
        watched = Watched(self)
        one = watched.claim("ann", ROW, 10)
        other = watched.claim("bob", OTHER, 10)
        third = watched.claim("ann", (1, 1, 1, 1), 14)
        self.assertEqual(watched.arena.spans(), [one, other, third])
        self.assertEqual([watched.arena.payer(span) for span in (one, other, third)], ["ann", "bob", "ann"])
        self.assertEqual([watched.arena.is_rivalled(span) for span in (one, other, third)], [True] * 3)
        self.assertEqual(watched.amounts(), (800, 900, 1000, 0, 300))
        self.assertEqual(watched.arena.stakes(), 300)

    def test_any_number_may_be_claimed(self):
        watched = Watched(self)
        for history in (1, 999999, 2 ** 48, watched.notary.seal(("step", 5)), watched.notary.seal(("word", 5))):
            watched.ok("ann", ("claim", history), 10)
            self.assertEqual(watched.arena.spans()[-1], watched.root(history))

    def test_there(self):
        watched = Watched(self)
        root = watched.claim("ann", ROW, 10)
        for sender in ("ann", "bob"):
            self.assertEqual(watched.do(sender, ("claim", root[4]), 11), "there")
        watched.claim("bob", OTHER, 11)
        self.assertEqual(watched.do("cat", ("claim", root[4]), 11), "there")

    def test_poor(self):
        watched = Watched(self, amounts={"ann": 100, "bob": 99, "cat": 250})
        self.assertEqual(watched.do("bob", ("claim", 5), 10), "poor")
        self.assertEqual(watched.do("dan", ("claim", 5), 10), "poor")
        watched.ok("ann", ("claim", 5), 10)
        self.assertEqual(watched.do("ann", ("claim", 6), 10), "poor")
        watched.ok("cat", ("claim", 6), 10)
        watched.ok("cat", ("claim", 7), 10)
        self.assertEqual(watched.do("cat", ("claim", 8), 10), "poor")
        self.assertEqual(watched.amounts(), (0, 99, 50, 0, 300))

    def test_closed(self):
        watched = Watched(self)
        root = watched.claim("ann", ROW, 10)
        watched.close(root, 13)
        self.assertEqual(watched.do("bob", ("claim", root[4] + 1), 13), "closed")
        # Closed comes ahead of there and poor.
        self.assertEqual(watched.do("bob", ("claim", root[4]), 13), "closed")
        self.assertEqual(watched.do("dan", ("claim", root[4]), 14), "closed")
        self.assertEqual(watched.do("dan", ("claim", 5), 40), "closed")

    def test_there_comes_ahead_of_poor(self):
        watched = Watched(self)
        root = watched.claim("ann", ROW, 10)
        self.assertEqual(watched.do("dan", ("claim", root[4]), 11), "there")

    def test_a_purse_that_claims(self):
        watched = Watched(self)
        self.assertEqual(watched.do("purse", ("claim", 5), 10), "poor")
        watched.claim("ann", ROW, 10)
        # It pays to itself what others have paid.
        watched.ok("purse", ("claim", 5), 10)
        self.assertEqual((watched.arena.stakes(), watched.accounts.amount("purse")), (200, 100))


class HalveTest(unittest.TestCase):
    def setUp(self):
        self.watched = Watched(self, needed=30, amounts={"ann": 1000, "bob": 107, "cat": 6, "dan": 7})
        self.notary = self.watched.notary
        self.arena = self.watched.arena
        self.one = self.watched.claim("ann", ROW, 10)
        self.other = self.watched.claim("bob", OTHER, 12)

    def refused(self, answer, deed, sender="ann", height=14):
        self.assertEqual(self.watched.do(sender, deed, height), answer, deed)

    def test_a_halving(self):
        self.watched.ok("ann", halving(self.notary, self.one), 14)
        _, left, right, _ = opening(self.notary, self.one[4])
        behind = self.notary.find(("behind", 0, left))
        halves = ((1, 0, 0, self.one[3], left), (1, 2, behind, 22, right))
        self.assertEqual(self.arena.halves(self.one), halves)
        self.assertEqual(halves_of(self.notary, self.one), halves)
        self.assertEqual(self.arena.spans(), [self.one, self.other, halves[0], halves[1]])
        self.assertEqual([self.arena.made(half) for half in halves], [14, 14])
        self.assertEqual((self.arena.halver(self.one), self.arena.halver(self.other)), ("ann", None))
        self.assertEqual([self.arena.payer(half) for half in halves], [None, None])
        self.assertEqual([self.arena.halver(half) for half in halves], [None, None])
        self.assertEqual(self.arena.stakes(), 207)
        self.assertEqual([self.watched.accounts.amount(name) for name in NAMES], [893, 7, 6, 7, 207])

    def test_anybody_may_halve(self):
        self.watched.halve("dan", self.one, 14)
        self.assertEqual(self.arena.halver(self.one), "dan")
        self.watched.halve("bob", self.other, 14)
        self.assertEqual(self.arena.halver(self.other), "bob")
        self.assertEqual([self.watched.accounts.amount(name) for name in NAMES], [900, 0, 6, 0, 214])

    def test_halves_that_are_posted_already(self):
        left, right = self.watched.halve("ann", self.one, 14)
        other_left, other_right = self.watched.halve("bob", self.other, 16)
        self.assertEqual(left, other_left)
        self.assertEqual(self.arena.spans(), [self.one, self.other, left, right, other_right])
        self.assertEqual([self.arena.made(span) for span in (left, right, other_right)], [14, 14, 16])
        self.assertEqual([self.arena.is_rivalled(span) for span in (left, right, other_right)], [False, True, True])
        self.assertEqual([self.arena.own(span, 20) for span in (left, right, other_right)], [6, 2, 0])
        self.assertEqual(self.arena.halves(self.other), (left, other_right))

    def test_the_right_half_that_is_posted_already(self):
        third = self.watched.claim("ann", (26, 22, 23, 24), 13)
        left, right = self.watched.halve("ann", self.one, 14)
        third_left, third_right = self.watched.halve("ann", third, 15)
        # Another left half is another past, so the right halves are no rivals and not the same.
        self.assertEqual(right[3:], third_right[3:])
        self.assertNotEqual(right[2], third_right[2])
        self.assertEqual(self.arena.spans()[3:], [left, right, third_left, third_right])
        self.assertEqual([self.arena.is_rivalled(span) for span in (left, right, third_left, third_right)],
                         [True, False, True, False])

    def test_a_span_that_becomes_rivalled_by_a_half(self):
        left, right = self.watched.halve("ann", self.one, 14)
        self.assertIs(self.arena.is_rivalled(right), False)
        self.refused("alone", halving(self.notary, right), height=15)
        self.watched.halve("bob", self.other, 17)
        self.assertIs(self.arena.is_rivalled(right), True)
        self.assertEqual(self.arena.own(right, 30), 3)
        self.watched.halve("ann", right, 18)
        self.assertEqual([span[0] for span in self.arena.spans()], [2, 2, 1, 1, 1, 0, 0])

    def test_down_to_level_0(self):
        right = self.watched.halve("ann", self.one, 14)[1]
        other_right = self.watched.halve("ann", self.other, 14)[1]
        low = self.watched.halve("ann", right, 15)
        other_low = self.watched.halve("ann", other_right, 15)
        self.assertEqual([span[1] for span in low + other_low], [2, 3, 2, 3])
        self.assertEqual([span[3] for span in low + other_low], [22, 23, 22, 25])
        self.assertEqual([self.arena.is_rivalled(span) for span in low + other_low], [True, False, True, False])
        for span in low + other_low:
            self.refused("low", ("halve", span, ("join", 1, 2, 3), ("step", 1), ("step", 3)), height=16)

    def test_unknown(self):
        for at in range(5):
            span = replaced(self.one, at, self.one[at] + 1)
            if span != self.other:
                self.refused("unknown", replaced(halving(self.notary, self.one), 1, span))
        left, _ = halves_of(self.notary, self.one)
        self.refused("unknown", halving(self.notary, left))

    def test_alone(self):
        watched = Watched(self, needed=30)
        one = watched.claim("ann", ROW, 10)
        self.assertEqual(watched.do("ann", halving(watched.notary, one), 11), "alone")
        watched.claim("bob", OTHER, 11)
        watched.halve("ann", one, 11)

    def test_done(self):
        self.watched.halve("ann", self.one, 14)
        for sender in ("ann", "bob"):
            self.refused("done", halving(self.notary, self.one), sender)

    def test_closed(self):
        watched = Watched(self, needed=2)
        one = watched.claim("ann", ROW, 10)
        other = watched.claim("bob", OTHER, 12)
        watched.close(one, 12)
        self.assertEqual(watched.do("ann", halving(watched.notary, one), 12), "closed")
        self.assertEqual(watched.do("ann", halving(watched.notary, other), 13), "closed")
        # Closed comes ahead of all others: unknown, low, wrong, poor.
        good = halving(watched.notary, one)
        self.assertEqual(watched.do("ann", replaced(good, 1, (2, 0, 0, 1, 1)), 13), "closed")
        self.assertEqual(watched.do("ann", replaced(good, 1, (0, 0, 0, 1, 1)), 13), "closed")
        self.assertEqual(watched.do("dan", replaced(good, 2, ("step", 9)), 13), "closed")

    def wrong(self, span, at, part):
        self.refused("wrong", replaced(halving(self.notary, span), at, part))

    def test_a_join_that_is_wrong(self):
        _, left, right, last = opening(self.notary, self.one[4])
        for part in (("join", left, right, last + 1), ("join", right, left, last), ("join", left, left, last),
                     ("join", 999999, right, last), ("step", last), ("step", self.one[4]),
                     opening(self.notary, self.other[4]), opening(self.notary, left)):
            self.wrong(self.one, 2, part)

    def test_openings_that_are_wrong(self):
        _, left, right, last = opening(self.notary, self.one[4])
        left_opening, right_opening = opening(self.notary, left), opening(self.notary, right)
        other_right = opening(self.notary, opening(self.notary, self.other[4])[2])
        for at, good, others in ((3, left_opening, (right_opening,)), (4, right_opening, (left_opening, other_right))):
            wrongs = others + (("step", good[-1]), ("step", 999999), replaced(good, 3, good[3] + 1),
                               replaced(good, 1, good[1] + 1), ("join", 999999, 999999, good[-1]))
            for part in wrongs:
                self.notary.seal(("step", 999999))
                self.wrong(self.one, at, part)
        deed = halving(self.notary, self.one)
        self.refused("wrong", deed[:3] + (deed[4], deed[3]))

    def claimed(self, *parts):
        """A claim of parts that are put together by the test, with a rival."""
        history = self.notary.seal(parts)
        self.watched.ok("ann", ("claim", history), 13)
        return self.watched.root(history)

    def test_a_last_state_that_is_not_that_of_the_right_part(self):
        _, left, right, last = opening(self.notary, self.one[4])
        for wrong in (last + 1, 22, 999999):
            span = self.claimed("join", left, right, wrong)
            self.refused("wrong", halving(self.notary, span))

    def test_a_step_that_is_claimed(self):
        span = self.claimed("step", 24)
        step_opening = ("step", 24)
        _, left, right, _ = opening(self.notary, self.one[4])
        for join in (step_opening, opening(self.notary, self.one[4])):
            self.refused("wrong", ("halve", span, join, opening(self.notary, left), opening(self.notary, right)))

    def test_a_step_of_what_would_be_the_left_part(self):
        _, left, right, _ = opening(self.notary, self.one[4])
        for number in (left, right, self.one[4]):
            span = self.claimed("step", number)
            left_opening, right_opening = opening(self.notary, number), opening(self.notary, right)
            self.refused("wrong", ("halve", span, ("step", number), left_opening, right_opening))

    def test_a_claim_that_has_no_opening(self):
        _, left, right, last = opening(self.notary, self.one[4])
        for history in (999999, self.notary.seal(("pair", left, right)), self.notary.seal(("join", left, right))):
            self.watched.ok("ann", ("claim", history), 13)
            deed = replaced(halving(self.notary, self.one), 1, self.watched.root(history))
            self.refused("wrong", deed)

    def test_parts_of_other_levels(self):
        # Whether the openings fit the levels is not looked at.
        step_seal = self.notary.seal(("step", 31))
        great = history_of(self.notary, tuple(range(40, 48)))
        for left, right, middle, last in ((step_seal, great, 31, 47), (great, step_seal, 47, 31)):
            behind = self.notary.seal(("behind", 0, left))
            span = self.claimed("join", left, right, last)
            halves = self.watched.halve("ann", span, 14)
            self.assertEqual(halves, ((1, 0, 0, span[3], left), (1, 2, behind, middle, right)))

    def test_a_part_whose_own_parts_have_no_seal(self):
        left = self.notary.seal(("join", 999991, 999992, 31))
        right = self.notary.seal(("join", 999993, 999994, 32))
        behind = self.notary.seal(("behind", 0, left))
        span = self.claimed("join", left, right, 32)
        halves = self.watched.halve("ann", span, 14)
        self.assertEqual(halves, ((1, 0, 0, span[3], left), (1, 2, behind, 31, right)))

    def test_parts_that_do_not_open(self):
        _, left, right, last = opening(self.notary, self.one[4])
        no_left = self.claimed("join", 999999, right, last)
        self.notary.seal(("behind", 0, 999999))
        self.refused("wrong", replaced(halving(self.notary, self.one), 1, no_left))
        self.refused("wrong", ("halve", no_left, opening(self.notary, no_left[4]), ("step", 5),
                               opening(self.notary, right)))
        no_right = self.claimed("join", left, 999999, last)
        self.refused("wrong", ("halve", no_right, opening(self.notary, no_right[4]), opening(self.notary, left),
                               ("step", last)))

    def test_no_seal_of_what_is_behind(self):
        history = history_of(self.notary, (71, 72, 73, 74))
        self.watched.ok("ann", ("claim", history), 13)
        span = self.watched.root(history)
        left = opening(self.notary, history)[1]
        for parts in (("behind", 1, left), ("behind", 0, left + 1), ("behind", left, 0), ("behind", 0)):
            self.notary.seal(parts)
        self.refused("wrong", halving(self.notary, span))
        self.notary.seal(("behind", 0, left))
        self.watched.halve("ann", span, 15)

    def test_what_is_behind_a_half(self):
        right = self.watched.halve("ann", self.one, 14)[1]
        self.watched.halve("ann", self.other, 14)
        low = self.watched.halve("ann", right, 14)
        left = opening(self.notary, right[4])[1]
        self.assertEqual(low[1][2], self.notary.find(("behind", right[2], left)))
        self.assertNotEqual(right[2], 0)

    def test_poor(self):
        self.refused("poor", halving(self.notary, self.one), "cat")
        self.refused("poor", halving(self.notary, self.one), "eve")
        self.watched.halve("dan", self.one, 14)
        self.refused("poor", halving(self.notary, self.other), "dan")
        self.watched.halve("bob", self.other, 14)

    def test_the_first_of_two_words(self):
        good = halving(self.notary, self.one)
        unposted = replaced(self.one, 3, self.one[3] + 1)
        # Unknown comes ahead of low, wrong and poor.
        self.refused("unknown", replaced(good, 1, (0, 0, 0, 1, 1)))
        self.refused("unknown", replaced(replaced(good, 1, unposted), 2, ("step", 5)), "cat")
        # Alone comes ahead of wrong and poor.
        left, right = self.watched.halve("ann", self.one, 14)
        alone = halving(self.notary, right)
        self.refused("alone", replaced(alone, 2, ("step", 5)))
        self.refused("alone", alone, "cat")
        # Done comes ahead of wrong and poor.
        self.refused("done", replaced(good, 2, ("step", 5)))
        self.refused("done", good, "cat")
        # Wrong comes ahead of poor.
        self.refused("wrong", replaced(halving(self.notary, self.other), 2, ("step", 5)), "cat")
        # Low comes ahead of alone, wrong and poor.
        self.watched.halve("ann", self.other, 14)
        for low in self.watched.halve("ann", right, 14):
            self.refused("low", ("halve", low, ("join", 1, 2, 3), ("step", 1), ("step", 3)), "cat")


# Stores, reads and writes; the last step but one is a store.
PROGRAM = (("read", 0), ("set", 1, 5), ("store", 0, 1), ("write", 0), ("load", 2, 1), ("left", 3), ("stop",))
WORDS = (77, 78)


class PaperTest(unittest.TestCase):
    def begin(self, level, state=None, needed=50):
        notary = Notary()
        self.run = Run(notary, PROGRAM, WORDS, state or first_state(), level)
        self.watched = Watched(self, level=level, needed=needed, notary=notary, asked=self.run.question())
        self.notary = notary
        self.arena = self.watched.arena
        self.true = self.watched.claim("ann", self.run.seals(), 10)

    def paper(self, n):
        return make_paper(self.notary, PROGRAM, WORDS, self.run.state_at(n))

    def at_level_0(self, n, needed=50):
        """An arena for the step number n alone, with a true claim and a false one."""
        state = first_state()
        for _ in range(n):
            state = step(PROGRAM, WORDS, state)
        self.begin(0, state, needed)
        self.false = self.watched.claim("bob", (self.notary.seal(("forged", 1)),), 11)
        return ("paper", self.true, self.run.seals()[0], self.paper(0))

    def refused(self, answer, deed, sender="ann", height=14):
        self.assertEqual(self.watched.do(sender, deed, height), answer, deed)

    def test_a_paper_for_each_kind_of_step(self):
        for n in range(8):
            deed = self.at_level_0(n)
            amounts = self.watched.amounts()
            # Anybody may send it, and it costs nothing.
            self.watched.ok("eve", deed, 14)
            self.assertIs(self.arena.is_settled(self.true), True)
            self.assertIs(self.arena.is_settled(self.false), False)
            self.assertEqual(self.watched.amounts(), amounts)
            self.assertEqual(self.arena.stakes(), 200)
            self.assertEqual(self.arena.stored(self.true), 0)
            self.assertEqual(self.arena.count(self.true, 14), 50)
            self.refused("done", deed)

    def test_the_false_claim_is_not_settled(self):
        for n in range(8):
            deed = self.at_level_0(n)
            forged = self.notary.find(("forged", 1))
            for state in (forged, self.run.seals()[0], self.run.start(), 1):
                self.refused("wrong", ("paper", self.false, state, deed[3]))

    def test_another_state(self):
        deed = self.at_level_0(2)
        for state in (self.run.start(), deed[2] + 1, self.notary.find(("forged", 1)), 999999, 2 ** 48):
            self.refused("wrong", replaced(deed, 2, state))

    def test_a_state_that_the_history_does_not_name(self):
        # The history has the seal of a join, or none.
        self.at_level_0(2)
        state = self.run.seals()[0]
        for history in (self.notary.seal(("join", 1, 2, state)), 999999, state):
            self.watched.ok("bob", ("claim", history), 12)
            self.refused("wrong", ("paper", self.watched.root(history), state, self.paper(0)))

    def test_a_paper_that_is_not_accepted(self):
        deed = self.at_level_0(2)
        paper = deed[3]
        for wrong in (None, 0, "", (), paper[:6], paper + (0,), (paper,), replaced(paper, 3, 1), replaced(paper, 1, ()),
                      replaced(paper, 0, replaced(paper[0], 1, 0)), self.paper(1)):
            self.refused("wrong", replaced(deed, 3, wrong))
        self.watched.ok("ann", deed, 14)

    def test_a_paper_for_another_program(self):
        deed = self.at_level_0(3)
        program = PROGRAM[:3] + (("write", 1),) + PROGRAM[4:]
        forged = make_paper(self.notary, program, WORDS, self.run.state_at(0))
        state = state_seal(self.notary, step(program, WORDS, self.run.state_at(0)))
        history = history_of(self.notary, (state,))
        self.watched.ok("bob", ("claim", history), 12)
        self.refused("wrong", ("paper", self.watched.root(history), state, forged))
        self.watched.ok("bob", deed, 14)

    def lied(self, level, at):
        """A false claim that forges the state behind step number `at`."""
        row = replaced(self.run.seals(), at, self.notary.seal(("forged", at)))
        return self.watched.claim("bob", row, 11)

    def test_papers_below_halvings(self):
        for at in range(8):
            self.begin(3)
            false = self.lied(3, at)
            for level in (3, 2, 1):
                for root in (self.true, false):
                    self.watched.halve("ann", part_of(self.notary, root, level, at), 12)
            true_part, false_part = (part_of(self.notary, root, 0, at) for root in (self.true, false))
            start = self.run.start() if at == 0 else self.run.seals()[at - 1]
            self.assertEqual(true_part[:2] + true_part[3:4], (0, at, start))
            self.assertEqual(false_part[:4], true_part[:4])
            deed = ("paper", true_part, self.run.seals()[at], self.paper(at))
            for other in range(8):
                if other != at:
                    self.refused("wrong", replaced(deed, 3, self.paper(other)))
            self.refused("wrong", ("paper", false_part, self.run.seals()[at], self.paper(at)))
            self.refused("wrong", ("paper", false_part, self.notary.find(("forged", at)), self.paper(at)))
            self.watched.ok("cat", deed, 14)
            self.assertEqual([span for span in self.arena.spans() if self.arena.is_settled(span)], [true_part])

    def test_unknown_high_and_alone(self):
        self.begin(1)
        self.lied(1, 1)
        paper = self.paper(0)
        left, right = halves_of(self.notary, self.true)
        self.refused("unknown", ("paper", left, self.run.seals()[0], paper))
        self.refused("high", ("paper", self.true, self.run.seals()[1], paper))
        self.watched.halve("ann", self.true, 12)
        self.refused("alone", ("paper", left, self.run.seals()[0], paper))
        self.refused("alone", ("paper", right, self.run.seals()[1], self.paper(1)))
        for at in (1, 2, 3, 4):
            self.refused("unknown", ("paper", replaced(left, at, left[at] + 1), self.run.seals()[0], paper))

    def test_the_first_of_two_words(self):
        self.begin(1)
        paper = self.paper(0)
        left, _ = halves_of(self.notary, self.true)
        # High comes ahead of alone and wrong, unknown ahead of high, alone and wrong.
        self.refused("high", ("paper", self.true, 5, None))
        self.refused("unknown", ("paper", replaced(self.true, 3, 1), 5, None))
        self.refused("unknown", ("paper", left, 5, None))
        self.lied(1, 0)
        self.watched.halve("ann", self.true, 12)
        # Alone comes ahead of wrong.
        self.refused("alone", ("paper", left, 5, None))
        self.watched.halve("ann", self.arena.spans()[1], 12)
        self.refused("high", ("paper", self.true, 5, None))
        self.refused("wrong", ("paper", left, 5, None))
        # Done comes ahead of wrong.
        self.watched.ok("ann", ("paper", left, self.run.seals()[0], paper), 12)
        self.refused("done", ("paper", left, 5, None))

    def test_closed(self):
        deed = self.at_level_0(2, needed=1)
        self.watched.close(self.true, 12)
        for other in (deed, replaced(deed, 3, None), replaced(deed, 1, (0, 0, 0, 1, 1)),
                      replaced(deed, 1, (1, 0, 0, 1, 1)), replaced(deed, 1, self.false)):
            self.refused("closed", other)

    def test_a_store_asks_no_more_than_24_times(self):
        deed = self.at_level_0(2)
        finds = self.notary.finds()
        self.assertEqual(deed[3][1], ("store", 0, 1))
        self.watched.ok("ann", deed, 14)
        self.assertLessEqual(self.notary.finds() - finds, 24)


if __name__ == "__main__":
    unittest.main()
