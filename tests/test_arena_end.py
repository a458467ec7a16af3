"""[6.16] to [6.18]: showings and the sharing."""

import unittest

from arenas import Watched, joins_to, part_of, replaced, seal_row
from onewatcher.histories import history_of, opening
from onewatcher.seals import Notary
from onewatcher.spans import halves_of

ROW = (21, 22, 23, 24, 25, 26, 27, 28)


class Fought(Watched):
    """An arena of level 3: the claim of ROW was halved on the way to some places, and is confirmed at 30."""

    def __init__(self, test, places=(5,), window=5, needed=10, **more):
        Watched.__init__(self, test, level=3, needed=needed, window=window, **more)
        self.one = self.claim("ann", ROW, 10)
        self.others = [self.claim("bob", replaced(ROW, at, 500 + at), 20) for at in places]
        for at in places:
            for level in (3, 2, 1):
                span = part_of(self.notary, self.one, level, at)
                if not self.arena.is_halved(span) and self.arena.is_rivalled(span):
                    self.halve("cat", span, 21)
                for other in self.others:
                    part = part_of(self.notary, other, level, at)
                    if self.arena.is_rivalled(part) and not self.arena.is_halved(part):
                        self.halve("dan", part, 22)
        self.close(self.one, 30)

    def joins(self, span):
        return joins_to(self.notary, self.one[4], 3, span)


class ShowTest(unittest.TestCase):
    def refused(self, answer, span, joins, height=33):
        self.assertEqual(self.watched.do("eve", ("show", span, joins), height), answer)

    def begin(self, places=(5,), **more):
        amounts = {"ann": 1000, "bob": 1000, "cat": 1000, "dan": 1000}
        self.watched = Fought(self, places, amounts=amounts, **more)
        self.one = self.watched.one
        self.arena = self.watched.arena
        self.notary = self.watched.notary

    def part(self, level, first, span=None):
        return part_of(self.notary, span or self.one, level, first)

    def test_every_halving_of_the_confirmed_span(self):
        for at in range(8):
            self.begin((at,))
            amounts = self.watched.amounts()
            spans = [self.part(level, at) for level in (3, 2, 1)]
            self.assertEqual([self.arena.halver(span) for span in spans], ["cat"] * 3)
            for count, span in enumerate(spans):
                joins = self.watched.joins(span)
                self.assertEqual(len(joins), count)
                self.assertIs(self.arena.is_shown(span), False)
                self.watched.ok("eve", ("show", span, joins), 33)
                self.assertIs(self.arena.is_shown(span), True)
                self.refused("done", span, joins)
            self.assertEqual(self.watched.amounts(), amounts)
            self.assertEqual([span for span in self.arena.spans() if self.arena.is_shown(span)], spans)

    def test_the_confirmed_span_itself_needs_no_joins(self):
        self.begin()
        self.refused("wrong", self.one, (opening(self.notary, self.one[4]),))
        self.refused("wrong", self.one, (("step", 5),))
        self.watched.ok("eve", ("show", self.one, ()), 33)

    def test_halvings_of_what_is_not_confirmed(self):
        self.begin((5,))
        other = self.watched.others[0]
        for level in (3, 2, 1):
            span = self.part(level, 5, other)
            self.assertIs(self.arena.is_halved(span), True)
            mine = self.watched.joins(span)
            theirs = joins_to(self.notary, other[4], 3, span)
            for joins in (mine, theirs, ()):
                self.refused("wrong", span, joins)

    def test_joins_that_lead_elsewhere(self):
        self.begin((1, 6))
        for at in (1, 6):
            for level in (2, 1):
                span = self.part(level, at)
                good = self.watched.joins(span)
                wrongs = [(), good[:-1], good[1:], good + good[-1:], good + (opening(self.notary, span[4]),),
                          good[:1] + good, good[::-1], good * 2, good * 100]
                other = self.watched.joins(self.part(level, 7 - at))
                wrongs += [other] if other[1:] != good[1:] else []
                for place, join in enumerate(good):
                    for index in (1, 2, 3):
                        changed = replaced(join, index, join[index] + 1)
                        wrongs.append(replaced(good, place, changed))
                    wrongs.append(replaced(good, place, ("step", join[3])))
                    wrongs.append(replaced(good, place, ("join", 999999, 999999, join[3])))
                    wrongs.append(replaced(good, place, opening(self.notary, span[4])))
                for joins in wrongs:
                    if joins != good:
                        self.refused("wrong", span, joins)
                self.watched.ok("eve", ("show", span, good), 33)

    def test_a_left_half_and_a_right_half_are_told_apart(self):
        # All states are the same, so that all parts of a level have the same history.
        row = (7,) * 8
        watched = Watched(self, level=3, needed=3)
        self.watched = watched
        one = watched.claim("ann", row, 10)
        watched.claim("bob", replaced(row, 5, 8), 13)
        watched.halve("cat", one, 14)
        watched.halve("cat", watched.arena.spans()[1], 14)
        right = part_of(watched.notary, one, 2, 4)
        left = part_of(watched.notary, one, 2, 0)
        watched.halve("cat", right, 14)
        self.assertEqual(left[4], right[4])
        watched.close(one, 15)
        joins = (opening(watched.notary, one[4]),)
        watched.ok("eve", ("show", right, joins), 15)
        self.refused("unknown", left, joins, 15)
        self.refused("wrong", one, joins, 15)

    def test_a_half_of_another_past(self):
        # The right halves have the same history and start, and differ in what is ahead of them.
        watched = Watched(self, level=3, needed=3)
        self.watched = watched
        one = watched.claim("ann", ROW, 10)
        other = watched.claim("bob", replaced(ROW, 1, 99), 13)
        third = watched.claim("bob", replaced(replaced(ROW, 1, 99), 5, 98), 13)
        for span in (one, other, third):
            watched.halve("cat", span, 14)
        mine, theirs = (part_of(watched.notary, span, 2, 4) for span in (one, other))
        self.assertEqual((mine[:2], mine[3:]), (theirs[:2], theirs[3:]))
        watched.halve("cat", theirs, 15)
        watched.close(one, 15)
        self.refused("wrong", theirs, (opening(watched.notary, one[4]),), 15)
        self.refused("wrong", theirs, (opening(watched.notary, other[4]),), 15)

    def test_a_missing_seal_of_what_is_behind(self):
        # The confirmed history was never halved with its own past, so this past has no seal.
        notary = Notary()
        watched = Watched(self, level=2, needed=3, notary=notary)
        self.watched = watched
        history = history_of(notary, (21, 22, 23, 24))
        watched.ok("ann", ("claim", history), 10)
        one = watched.root(history)
        _, left, right, last = opening(notary, history)
        other = watched.claim("bob", (31, 32, 23, 24), 13)
        rival = watched.claim("bob", (31, 32, 23, 29), 13)
        watched.halve("cat", other, 14)
        watched.halve("cat", rival, 14)
        theirs = part_of(notary, other, 1, 2)
        self.assertEqual(theirs[4], right)
        watched.halve("cat", theirs, 14)
        watched.close(one, 15)
        self.assertEqual(notary.find(("behind", 0, left)), 0)
        self.refused("wrong", theirs, (opening(notary, history),), 15)

    def test_open(self):
        watched = Watched(self, level=3, needed=30)
        self.watched = watched
        one = watched.claim("ann", ROW, 10)
        self.refused("open", one, (), 11)
        watched.claim("bob", replaced(ROW, 1, 99), 13)
        watched.halve("ann", one, 13)
        self.refused("open", one, (), 14)
        # Open comes ahead of unknown and wrong.
        self.refused("open", (0, 0, 0, 1, 1), (), 14)
        self.refused("open", one, (("step", 1),), 14)

    def test_the_last_height_of_the_window(self):
        for window in (1, 5, 9):
            self.begin(window=window)
            half = self.part(2, 5)
            self.refused("wrong", half, (), 30 + window)
            self.watched.ok("eve", ("show", half, self.watched.joins(half)), 30 + window)
            self.refused("late", self.one, (), 31 + window)
            # Late comes ahead of unknown, done and wrong.
            self.refused("late", half, self.watched.joins(half), 31 + window)
            self.refused("late", (0, 0, 0, 1, 1), (), 31 + window)
            self.refused("late", self.one, (("step", 1),), 60 + window)
            self.assertIs(self.arena.is_shown(self.one), False)

    def test_the_height_of_the_closing(self):
        self.begin()
        self.watched.ok("eve", ("show", self.one, ()), 30)

    def test_unknown(self):
        self.begin((5,))
        whole = self.part(2, 0)
        self.assertIs(self.arena.is_posted(whole), True)
        self.refused("unknown", whole, self.watched.joins(whole))
        low = self.part(0, 5)
        self.assertIs(self.arena.is_posted(low), True)
        self.refused("unknown", low, self.watched.joins(low))
        for at in range(5):
            if at != 1 or self.one[1] < 1023:
                self.refused("unknown", replaced(self.one, at, self.one[at] + 1), ())
        # Unknown comes ahead of wrong.
        self.refused("unknown", whole, (("step", 1),) * 4)

    def test_done_comes_ahead_of_wrong(self):
        self.begin()
        self.watched.ok("eve", ("show", self.one, ()), 33)
        self.refused("done", self.one, (("step", 1),))

    def test_the_greatest_level_asks_no_more_than_24_times(self):
        notary = Notary()
        watched = Watched(self, level=10, needed=3, notary=notary)
        self.watched = watched
        row = tuple(range(1, 1025))
        one = watched.claim("ann", row, 10)
        other = watched.claim("bob", row[:1023] + (5000,), 13)
        for level in range(10, 0, -1):
            for root in (one, other):
                watched.halve("cat", part_of(notary, root, level, 1023), 14)
        watched.close(one, 15)
        for level in range(1, 11):
            span = part_of(notary, one, level, 1023)
            joins = joins_to(notary, one[4], 10, span)
            self.refused("wrong", part_of(notary, other, level, 1023), joins, 15)
            self.refused("wrong", span, joins * 200 + (opening(notary, one[4]),), 15)
            self.refused("wrong", span, (opening(notary, one[4]),) * 11, 15)
            watched.ok("eve", ("show", span, joins), 15)


class ShareTest(unittest.TestCase):
    def begin(self, places=(5,), shows=(), root_stake=100, half_stake=7, window=5, **more):
        amounts = {"ann": 1000, "bob": 1000, "cat": 1000, "dan": 1000}
        self.watched = Fought(self, places, window, root_stake=root_stake, half_stake=half_stake, amounts=amounts,
                              **more)
        self.arena = self.watched.arena
        for level, at in shows:
            span = part_of(self.watched.notary, self.watched.one, level, at)
            self.watched.ok("eve", ("show", span, self.watched.joins(span)), 33)

    def share(self, told, height=36, sender="eve"):
        self.watched.ok(sender, ("share",), height)
        self.assertEqual(self.watched.amounts(), told)
        self.assertEqual(self.arena.stakes(), 0)
        self.assertIs(self.arena.is_shared(), True)

    def test_a_claim_alone(self):
        self.begin(places=())
        self.assertEqual(self.watched.amounts(), (900, 1000, 1000, 1000, 100))
        self.share((1000, 1000, 1000, 1000, 0))

    def test_without_a_showing_all_goes_to_the_confirmed(self):
        self.begin()
        # Three halvings of each claim.
        self.assertEqual(self.watched.amounts(), (900, 900, 979, 979, 242))
        self.assertEqual(self.arena.stakes(), 242)
        self.share((1142, 900, 979, 979, 0))

    def test_one_showing(self):
        self.begin(shows=((3, 0),))
        # The pot is 242 - 107 = 135: 126 for 100, 8 for 7, and 1 is left.
        self.share((900 + 100 + 126 + 1, 900, 979 + 7 + 8, 979, 0))

    def test_all_showings(self):
        self.begin(shows=((3, 0), (2, 5), (1, 5)))
        # The pot is 242 - 121 = 121: 100 for 100, and 7 for each 7.
        self.share((900 + 100 + 100, 900, 979 + 3 * 14, 979, 0))

    def test_shares_that_are_rounded_down(self):
        self.begin(shows=((3, 0), (1, 5)), root_stake=50, half_stake=3)
        # 118 in all; backed are 56, the pot is 62: 55 for 50, 3 for each 3, and 1 is left.
        self.assertEqual(self.arena.stakes(), 118)
        self.share((950 + 50 + 55 + 1, 950, 991 + 6 + 6, 991, 0))

    def test_a_half_stake_that_is_the_greater_one(self):
        self.begin(shows=((2, 5),), root_stake=3, half_stake=50)
        # 306 in all; backed are 53, the pot is 253: 14 for 3, 238 for 50, and 1 is left.
        self.share((997 + 3 + 14 + 1, 997, 850 + 50 + 238, 850, 0))

    def test_several_false_claims(self):
        self.begin(places=(1, 6, 3), shows=((3, 0), (2, 0), (2, 4)))
        stakes = self.arena.stakes()
        halvings = [span for span in self.arena.spans() if self.arena.is_halved(span)]
        self.assertEqual(stakes, 400 + 7 * len(halvings))
        backed = 121
        pot = stakes - backed
        before = self.watched.amounts()
        mine, each = pot * 100 // backed, pot * 7 // backed
        self.share((before[0] + 100 + pot - 3 * each, before[1], before[2] + 3 * (7 + each), before[3], 0))
        self.assertGreaterEqual(pot - 3 * each, mine)

    def test_one_payer_of_all(self):
        watched = Watched(self, level=1, needed=3)
        one = watched.claim("ann", (21, 22), 10)
        watched.claim("ann", (21, 23), 13)
        watched.halve("ann", one, 13)
        watched.close(one, 13)
        watched.ok("ann", ("show", one, ()), 14)
        watched.ok("ann", ("share",), 19)
        self.assertEqual(watched.amounts(), (1000, 1000, 1000, 0, 0))

    def test_the_payers_of_halvings_and_not_the_showers(self):
        watched = Watched(self, level=1, needed=3, root_stake=10, half_stake=10)
        one = watched.claim("ann", (21, 22), 10)
        watched.claim("bob", (21, 23), 13)
        watched.halve("cat", one, 13)
        watched.close(one, 13)
        watched.ok("bob", ("show", one, ()), 14)
        watched.ok("bob", ("share",), 19)
        self.assertEqual(watched.amounts(), (1005, 990, 1005, 0, 0))

    def test_open(self):
        watched = Watched(self, level=1, needed=3)
        self.assertEqual(watched.do("eve", ("share",), 50), "open")
        watched.claim("ann", (21, 22), 50)
        self.assertEqual(watched.do("eve", ("share",), 60), "open")

    def test_early_and_done(self):
        for window in (1, 5, 9):
            self.begin(window=window)
            for height in (30, 30 + window - 1, 30 + window):
                self.assertEqual(self.watched.do("eve", ("share",), max(height, 30)), "early")
            self.watched.ok("eve", ("share",), 31 + window)
            self.assertEqual(self.watched.do("eve", ("share",), 31 + window), "done")
            self.assertEqual(self.watched.do("ann", ("share",), 99), "done")

    def test_everything_else_is_refused_behind_the_sharing(self):
        self.begin()
        one = self.watched.one
        self.share((1142, 900, 979, 979, 0))
        answers = [self.watched.do("ann", deed, 37) for deed in (
            ("claim", 5), ("halve", one, ("join", 1, 2, 3), ("step", 1), ("step", 2)), ("paper", one, 5, None),
            ("gather", one), ("close", one), ("show", one, ()))]
        self.assertEqual(answers, ["closed"] * 5 + ["late"])
        self.assertEqual((self.arena.confirmed(), self.arena.closed_at()), (one, 30))

    def test_money_in_the_purse_that_is_no_stake(self):
        self.begin()
        self.watched.accounts.move("bob", "purse", 400)
        self.share((1142, 500, 979, 979, 400))

    def test_a_payment_that_cannot_be_made_is_passed_over(self):
        # An account that is called like the purse has taken money out of it.
        self.begin(shows=((3, 0),))
        self.watched.accounts.move("purse", "dan", 200)
        # What the payer of the confirmed span should get, 226, is not there; the payment of 15, and 1, are.
        self.share((900 + 1, 900, 979 + 15, 1179, 26))
        self.begin(shows=((3, 0),))
        self.watched.accounts.move("purse", "dan", 242)
        self.share((900, 900, 979, 1221, 0))

    def test_a_purse_that_has_claimed(self):
        watched = Watched(self, level=1, needed=3, root_stake=10)
        one = watched.claim("ann", (21, 22), 10)
        watched.ok("purse", ("claim", seal_row(watched.notary, None, (21, 23))), 13)
        self.assertEqual((watched.arena.stakes(), watched.accounts.amount("purse")), (20, 10))
        watched.close(one, 13)
        watched.ok("eve", ("share",), 19)
        self.assertEqual(watched.accounts.total(), 3000)
        self.assertEqual(watched.arena.stakes(), 0)

    def test_the_halves_of_what_is_shown_are_told(self):
        self.begin()
        self.assertEqual(self.arena.halves(self.watched.one), halves_of(self.watched.notary, self.watched.one))


if __name__ == "__main__":
    unittest.main()
