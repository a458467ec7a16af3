"""The "ask" and the "arena" of [7.3]: questions and their arenas."""

import unittest

from arenas import nested, seal_row, seen
from bridges import BACK, NOTE, ODDITIES, WatchedBridge, pay_deed, plain_run
from onewatcher.bridge import Bridge
from onewatcher.histories import history_of
from onewatcher.machine import first_state
from onewatcher.seals import Notary
from onewatcher.states import question


class AskTest(unittest.TestCase):
    def setUp(self):
        self.watched = WatchedBridge(self)
        self.bridge = self.watched.bridge

    def test_empty_and_open(self):
        self.assertEqual(self.watched.do("ann", ("ask",)), "empty")
        self.watched.ok("ann", ("put", 5, 1))
        self.watched.ok("ann", ("ask",))
        # Both words are due; the first of the list is the answer.
        self.assertEqual(self.watched.do("ann", ("ask",)), "open")
        self.watched.ok("ann", ("put", 5, 1))
        self.assertEqual(self.watched.do("ann", ("ask",)), "open")
        self.assertEqual(self.bridge.number(), 1)

    def test_anybody_may_ask(self):
        for name in ("ann", "eve", "nobody", "vault"):
            self.watched = WatchedBridge(self)
            self.watched.ok("ann", ("put", 5, 1))
            self.watched.ok(name, ("ask",))

    def test_the_question(self):
        for level in (0, 1, 4, 10):
            watched = WatchedBridge(self, level=level)
            watched.ask(("bob", 30, 7), ("ann", 1, 0), height=9)
            bridge = watched.bridge
            self.assertEqual(bridge.inbox(), [])
            self.assertEqual(bridge.entries(1), ((1, 30, 7), (0, 1, 0)))
            self.assertEqual((bridge.number(), bridge.is_paid(1), bridge.rest()), (1, False, 0))
            arena = bridge.arena(1)
            words = (1, 30, 7, 0, 1, 0)
            self.assertEqual(arena.question(), question(watched.notary, BACK, words, first_state(), level))
            self.assertEqual((arena.opened(), arena.spans(), arena.stakes()), (9, [], 0))
            self.assertEqual(watched.accounts.amount("vault"), 31)

    def test_heights(self):
        # A ledger's chain may be higher than the numbers that an arena is made with.
        for height in (0, 1, 1000000, 1000001, 2000000):
            watched = WatchedBridge(self)
            watched.ask(("ann", 5, 1), height=height)
            self.assertEqual(watched.bridge.arena(1).opened(), height)
            self.assertEqual(watched.bridge.copy().arena(1).opened(), height)

    def test_the_next_question(self):
        run = self.watched.ask(("ann", 5, 1))
        self.watched.ok("bob", ("put", 6, 2))
        self.watched.confirm(history_of(self.watched.notary, run.seals()), 1)
        self.assertEqual(self.watched.do("bob", ("ask",), 5), "open")
        self.watched.ok("bob", pay_deed(self.watched.notary, run), 5)
        self.assertIs(self.bridge.is_paid(1), True)
        self.watched.ok("bob", ("ask",), 6)
        self.assertEqual((self.bridge.number(), self.bridge.entries(2)), (2, ((1, 6, 2),)))
        self.assertEqual((self.bridge.is_paid(1), self.bridge.is_paid(2)), (True, False))
        self.assertEqual((self.bridge.arena(1).opened(), self.bridge.arena(2).opened()), (1, 6))
        self.assertEqual(self.bridge.entries(1), ((0, 5, 1),))
        self.watched.settle(plain_run(self.bridge, self.watched.notary, 2), 7)
        self.assertEqual(self.watched.do("bob", ("ask",), 20), "empty")


class ArenaTest(unittest.TestCase):
    def setUp(self):
        self.watched = WatchedBridge(self)
        self.bridge = self.watched.bridge

    def test_numbers_that_no_question_has(self):
        for number in (-1, 0, 1, 2, 2 ** 60, -2 ** 60):
            self.assertEqual(self.watched.do("ann", ("arena", number, ("share",))), "none")
        self.watched.ask(("ann", 5, 1))
        for number in (-1, 0, 2, 3):
            self.assertEqual(self.watched.do("ann", ("arena", number, ("share",))), "none")
            self.assertEqual(self.watched.do("ann", ("arena", number, None)), "none")
        for number in (None, True, False, "1", (1,), ()):
            self.assertEqual(self.watched.do("ann", ("arena", number, ("share",))), "bad")

    def test_the_answer_is_that_of_the_arena(self):
        run = self.watched.ask(("ann", 5, 1))
        history = history_of(self.watched.notary, run.seals())
        span = (4, 0, 0, run.start(), history)
        do = self.watched.do
        self.assertEqual(do("ann", ("arena", 1, ("share",))), "open")
        self.assertEqual(do("ann", ("arena", 1, ("gather", span))), "unknown")
        self.assertEqual(do("eve", ("arena", 1, ("claim", history)), 2), "ok")
        self.assertEqual(do("ann", ("arena", 1, ("claim", history)), 2), "there")
        self.assertEqual(do("nobody", ("arena", 1, ("claim", history + 1)), 2), "poor")
        self.assertEqual(do("ann", ("arena", 1, ("close", span)), 3), "early")
        for value in ODDITIES + (nested(12), ("ask",), ("put", 1, 2), ("arena", 1, ("share",)), 5, "claim"):
            self.assertEqual(do("ann", ("arena", 1, value), 3), "bad")

    def test_the_purse(self):
        run = self.watched.ask(("ann", 5, 1))
        self.watched.settle(run, 1)
        self.assertEqual(self.watched.accounts.amount("purse1"), 100)
        run = self.watched.ask(("ann", 5, 1), height=20)
        row = run.seals()
        history = seal_row(self.watched.notary, None, row)
        self.watched.ok("bob", ("arena", 2, ("claim", history)), 21)
        self.assertEqual(self.watched.accounts.amount("purse2"), 100)
        # The first arena was paid already; its deeds are carried out all the same, with its own purse.
        self.watched.ok("dan", ("arena", 1, ("share",)), 22)
        self.assertEqual([self.watched.accounts.amount(name) for name in ("purse1", "purse2", "eve", "bob")],
                         [0, 100, 500, 900])
        self.assertEqual(self.watched.do("dan", ("arena", 1, ("share",)), 23), "done")
        self.assertEqual(self.watched.do("dan", ("arena", 2, ("share",)), 23), "open")

    def test_purses_of_two_digits(self):
        watched = WatchedBridge(self, program=(("stop",),), level=0)
        for number in range(1, 11):
            height = number * 20
            run = watched.ask(("ann", 1, 0), height=height)
            watched.confirm(history_of(watched.notary, run.seals()), height, name="ann")
            watched.ok("ann", pay_deed(watched.notary, run), height + 4)
            self.assertEqual(watched.accounts.amount("purse{}".format(number)), 100)
            watched.ok("ann", ("arena", number, ("share",)), height + 9)
            self.assertEqual(watched.accounts.amount("purse{}".format(number)), 0)
        self.assertEqual(watched.bridge.number(), 10)

    def test_what_is_returned_is_a_copy(self):
        run = self.watched.ask(("ann", 5, 1))
        history = history_of(self.watched.notary, run.seals())
        arena = self.bridge.arena(1)
        arena.apply("ann", ("claim", history), 1, self.watched.accounts.copy(), "purse1")
        self.assertEqual(self.bridge.arena(1).spans(), [])
        self.watched.ok("ann", ("arena", 1, ("claim", history)), 1)
        self.assertEqual(seen(self.bridge.arena(1)), seen(arena))


class CopyTest(unittest.TestCase):
    def test_copies_are_independent(self):
        watched = WatchedBridge(self, program=NOTE, level=3)
        run = watched.ask(("ann", 50, 20), ("bob", 7, 0))
        deed = pay_deed(watched.notary, run)
        watched.confirm(history_of(watched.notary, run.seals()), 1)
        held = watched.bridge.copy()
        accounts = watched.accounts.copy()
        watched.ok("ann", deed, 5)
        self.assertEqual((held.rest(), held.is_paid(1), watched.bridge.rest()), (0, False, 37))
        later = watched.bridge.copy()
        self.assertEqual((later.rest(), later.is_paid(1), later.is_paid(2)), (37, True, False))
        watched.ok("cat", ("put", 9, 9), 5)
        watched.ask(height=6)
        self.assertEqual((held.number(), held.inbox(), held.entries(2)), (1, [], None))
        # The copy goes its own way, with the same notary.
        self.assertEqual(held.apply("cat", ("put", 3, 3), 5, accounts), "ok")
        self.assertEqual(held.apply("cat", deed, 5, accounts), "ok")
        self.assertEqual((held.inbox(), held.rest(), held.number()), ([(2, 3, 3)], 37, 1))
        self.assertEqual(watched.bridge.inbox(), [])
        self.assertEqual(watched.bridge.entries(2), ((2, 9, 9),))
        self.assertEqual(held.apply("cat", ("arena", 1, ("share",)), 9, accounts), "ok")
        self.assertIs(watched.bridge.arena(1).is_shared(), False)

    def test_a_copy_is_equal(self):
        watched = WatchedBridge(self, needed=4, root_stake=90, half_stake=3, window=6, level=5)
        watched.ask(("ann", 50, 20), ("bob", 7, 0))
        held = watched.bridge.copy()
        self.assertEqual((held.program(), held.members(), held.level(), held.window()),
                         (BACK, ("ann", "bob", "cat"), 5, 6))
        self.assertEqual(held.entries(1), watched.bridge.entries(1))
        self.assertEqual(seen(held.arena(1)), seen(watched.bridge.arena(1)))
        watched.bridge = held
        run = plain_run(held, watched.notary, 1)
        watched.settle(run)
        watched.ask(("cat", 2, 2))
        again = held.copy().arena(2)
        self.assertEqual((again.needed(), again.root_stake(), again.half_stake(), again.window()), (4, 90, 3, 6))

    def test_two_bridges_of_one_notary(self):
        notary = Notary()
        one = Bridge(notary, BACK, ("ann",), 2, 3, 100, 7, 2)
        other = Bridge(notary, BACK, ("ann",), 2, 3, 100, 7, 2)
        watched = WatchedBridge(self)
        one.apply("ann", ("put", 5, 5), 1, watched.accounts)
        one.apply("ann", ("ask",), 1, watched.accounts)
        self.assertEqual((other.inbox(), other.number()), ([], 0))


if __name__ == "__main__":
    unittest.main()
