"""[8.4] and [9.1]: what the watcher of a world sends, and when."""

import unittest

from bridges import BACK, pay_deed
from onewatcher.errors import BadArena, BadState
from onewatcher.histories import history_of
from onewatcher.ledger import Ledger
from onewatcher.machine import first_state
from onewatcher.seals import Notary
from onewatcher.states import Run, state_seal
from onewatcher.world import World
from worlds import AMOUNTS, MEMBERS, Observed


def true_run(seen):
    """The run of the question with the one entry (0, 50, 1), ahead of the asking."""
    return Run(seen.notary, BACK, (0, 50, 1), first_state(), seen.level)


class MakingTest(unittest.TestCase):
    def make(self, program=BACK, level=3, needed=9, root_stake=100, half_stake=7, window=2):
        return World(program, MEMBERS, AMOUNTS, level, needed, root_stake, half_stake, window, 2, "wat")

    def test_what_a_bridge_raises(self):
        for more in ({"program": ()}, {"level": 11}, {"level": -1}, {"level": True}, {"program": None, "needed": 0}):
            with self.assertRaises(BadState):
                self.make(**more)
        for name in ("needed", "root_stake", "half_stake", "window"):
            for number in (0, 1000001, -1):
                with self.assertRaises(BadArena):
                    self.make(**{name: number})

    def test_a_new_world(self):
        world = self.make()
        ledger = world.ledger()
        self.assertIsInstance(ledger, Ledger)
        self.assertIsInstance(world.notary(), Notary)
        self.assertEqual((ledger.head(), ledger.pool(), ledger.patience(), ledger.blocks()), (0, [], 2, []))
        bridge = ledger.contract()
        self.assertEqual((bridge.program(), bridge.members(), bridge.level(), bridge.window(), bridge.number()),
                         (BACK, MEMBERS, 3, 2, 0))
        for name, amount in AMOUNTS.items():
            self.assertEqual(ledger.accounts().amount(name), amount)
        self.assertEqual(world.outcome(), (0, (), tuple(sorted(AMOUNTS.items()))))
        for number in (-1, 0, 1, 2):
            self.assertIsNone(world.run_of(number))
        self.assertIs(world.ledger(), ledger)
        self.assertIs(world.notary(), world.notary())

    def test_the_amounts_are_copied(self):
        amounts = {"ann": 60, "wat": 500}
        world = World(BACK, MEMBERS, amounts, 3, 9, 100, 7, 2, 1, "wat")
        world.act(("send", "ann", ("put", 50, 1)))
        world.act(("block", ()))
        self.assertEqual(amounts, {"ann": 60, "wat": 500})
        amounts["ann"] = 0
        self.assertEqual(world.ledger().accounts().amount("ann"), 10)
        world.act(("back", 1))
        self.assertEqual(world.ledger().accounts().amount("ann"), 60)

    def test_the_ledger_is_the_ledger_itself(self):
        world = self.make()
        world.ledger().send("ann", ("put", 50, 1))
        world.act(("block", ()))
        self.assertEqual(world.ledger().blocks(), [()])
        world.act(("block", ()))
        self.assertEqual(world.ledger().contract().inbox(), [(0, 50, 1)])

    def test_the_notary_is_that_of_the_bridge(self):
        seen = Observed(self)
        seen.ask()
        run = seen.world.run_of(1)
        size = seen.notary.size()
        self.assertEqual(run.start(), state_seal(seen.notary, first_state()))
        self.assertEqual(seen.notary.size(), size)
        self.assertEqual(run.question(), seen.arena().question())
        self.assertEqual(run.words(), (0, 50, 1))
        self.assertEqual(run.program(), BACK)
        self.assertIsNone(seen.world.run_of(2))
        seen.act("back", 1)
        self.assertIsNone(seen.world.run_of(1))


class WatcherTest(unittest.TestCase):
    def claim(self, seen, number=1):
        return ("arena", number, ("claim", seen.truth(number).root()[4]))

    def test_a_question_without_rivals(self):
        seen = Observed(self, patience=1, needed=5, window=2)
        seen.ask()
        root = seen.truth().root()
        self.assertEqual(seen.held, [("wat", self.claim(seen))])
        self.assertEqual(seen.act("block", ()), ("ok",))
        self.assertEqual(seen.held, [])
        seen.wait(4)
        self.assertEqual(seen.held, [])
        self.assertEqual(seen.act("block", ()), ())
        self.assertEqual((seen.arena().made(root), seen.ledger.head()), (3, 8))
        self.assertEqual(seen.held, [("wat", ("arena", 1, ("gather", root)))])
        self.assertEqual(seen.act("block", ()), ("ok",))
        self.assertEqual(seen.held, [("wat", ("arena", 1, ("close", root)))])
        self.assertEqual(seen.act("block", ()), ("ok",))
        self.assertEqual(seen.held, [("wat", pay_deed(seen.notary, seen.world.run_of(1)))])
        self.assertEqual(seen.act("block", ()), ("ok",))
        self.assertEqual(seen.held, [])
        self.assertEqual(seen.act("block", ()), ())
        self.assertEqual(seen.held, [("wat", ("arena", 1, ("share",)))])
        self.assertEqual(seen.act("block", ()), ("ok",))
        self.assertEqual((seen.held, seen.pool()), ([], []))
        seen.check_end()

    def test_a_deed_in_the_pool_is_not_sent_again(self):
        seen = Observed(self, patience=4)
        seen.ask()
        self.assertEqual(seen.held, [("wat", self.claim(seen))])
        for _ in range(3):
            self.assertEqual(seen.act("block", ()), ())
            self.assertEqual(seen.held, [])
        self.assertEqual(len(seen.pool()), 1)
        self.assertEqual(seen.act("block", ()), ("ok",))

    def test_the_letter_of_another_sender_does_not_count(self):
        seen = Observed(self, patience=4)
        claim = ("arena", 1, ("claim", history_of(seen.notary, true_run(seen).seals())))
        seen.act("send", "ann", ("put", 50, 1))
        seen.act("block", (1,))
        seen.act("send", "eve", claim)
        seen.act("send", "ann", ("ask",))
        seen.act("block", (3,))
        self.assertEqual(seen.held, [("wat", claim)])
        self.assertEqual([letter[1:] for letter in seen.pool()], [("eve", claim), ("wat", claim)])

    def test_a_deed_that_could_not_be_done_is_sent_again(self):
        amounts = {"ann": 500, "bob": 500, "wat": 99, "eve": 500}
        seen = Observed(self, patience=1, amounts=amounts)
        # The guarantee does not hold for a watcher without money.
        seen.check_whole = lambda: None
        seen.ask()
        for _ in range(3):
            self.assertEqual(seen.held, [("wat", self.claim(seen))])
            self.assertEqual(seen.act("block", ()), ("poor",))
        seen.act("send", "eve", self.claim(seen))
        self.assertEqual(seen.block("eve"), ("ok", "there"))
        self.assertEqual(seen.held, [])

    def test_a_halving_that_could_not_be_paid_is_sent_again(self):
        seen = Observed(self, patience=1, amounts={"ann": 500, "wat": 106, "eve": 500})
        seen.check_whole = lambda: None
        seen.ask()
        seen.act("forge", "eve", 2, 1)
        seen.act("block", ())
        halving = ("arena", 1, seen.truth().halving(seen.truth().root()))
        for _ in range(3):
            self.assertEqual(seen.held, [("wat", halving)])
            self.assertEqual(seen.act("block", ()), ("poor",))

    def test_halvings_and_papers_in_their_order(self):
        seen = Observed(self, level=2, patience=1)
        seen.ask()
        truth = seen.truth()
        for step in (0, 3):
            seen.act("forge", "eve", step, 1)
        seen.act("block", ())
        self.assertEqual(seen.held, [("wat", ("arena", 1, truth.halving(truth.root())))])
        for _ in range(2):
            seen.act("cut", "eve")
            seen.block("wat")
            self.assertEqual(seen.pool(), [letter for letter in seen.pool() if letter[1] == "wat"])
        deeds = [truth.paper(truth.true_span(0, first)) for first in (0, 3)]
        self.assertEqual(seen.held, [("wat", ("arena", 1, deed)) for deed in deeds])
        self.assertEqual(seen.act("block", ()), ("ok", "ok"))
        self.assertEqual(seen.held, [])

    def test_behind_a_turning_back(self):
        seen = Observed(self, patience=3)
        seen.ask()
        claim = self.claim(seen)
        seen.block("wat")
        self.assertEqual(seen.held, [])
        # The letter is in the pool again, so it is not sent once more.
        seen.act("back", 1)
        self.assertEqual((seen.held, seen.pool()), ([], [(3, "wat", claim)]))
        seen.act("forge", "eve", 2, 1)
        seen.act("block", (3, 4))
        halving = ("arena", 1, seen.truth().halving(seen.truth().root()))
        self.assertEqual(seen.held, [("wat", halving)])
        seen.act("back", 1)
        self.assertEqual(seen.held, [])
        # Below the asking nothing is wanted; the letters stay in the pool.
        seen.act("back", 1)
        self.assertEqual(seen.held, [])
        self.assertEqual([letter[2] for letter in seen.pool() if letter[1] == "wat"], [claim, halving])

    def test_a_deed_that_is_wanted_behind_a_turning_back(self):
        seen = Observed(self, patience=2, needed=20)
        seen.ask()
        seen.block("wat")
        seen.act("forge", "eve", 2, 1)
        seen.block("eve")
        seen.block("wat")
        seen.wait(3)
        # The true halving was carried out; turning back two blocks more brings it into the pool.
        seen.act("back", 4)
        self.assertEqual(seen.held, [])
        self.assertEqual(len([letter for letter in seen.pool() if letter[1] == "wat"]), 1)

    def test_a_head_that_the_watcher_sees_for_the_first_time(self):
        # These blocks are made behind the watcher's back; it looks when the last one of them is taken back.
        seen = Observed(self, patience=4)
        seen.world.play((("send", "ann", ("put", 50, 1)), ("send", "ann", ("ask",)), ("send", "ann", None)))
        seen.ledger.add_block((1, 2))
        seen.ledger.add_block((3,))
        self.assertEqual(len(seen.letters()), 3)
        seen.world.act(("back", 3))
        self.assertEqual(len(seen.letters()), 3)
        seen.world.act(("back", 1))
        self.assertEqual(seen.pool()[-1], (4, "wat", self.claim(seen)))

    def test_true_is_not_one(self):
        # For Python the two deeds are equal; but the one in the pool is bad, and does not stand for the other.
        seen = Observed(self, patience=3)
        claim = ("claim", history_of(seen.notary, true_run(seen).seals()))
        seen.act("send", "ann", ("put", 50, 1))
        seen.act("block", (1,))
        seen.ledger.send("wat", ("arena", True, claim))
        seen.act("send", "ann", ("ask",))
        seen.world.act(("block", (3,)))
        self.assertEqual([letter[2][1] is True for letter in seen.pool()], [True, False])
        self.assertEqual(seen.pool()[1][1:], ("wat", ("arena", 1, claim)))
        self.assertEqual(seen.world.act(("block", (2, 4))), ("bad", "ok"))

    def test_the_watcher_may_be_a_member(self):
        world = World(BACK, ("wat", "ann"), {"wat": 500, "ann": 100}, 4, 6, 100, 7, 1, 1, "wat")
        world.play((("send", "ann", ("put", 50, 1)), ("send", "ann", ("ask",)), ("block", ())))
        self.assertLess(world.settle(60), 60)
        _, paid, amounts = world.outcome()
        self.assertEqual(paid[0][3], (1, 50))
        self.assertEqual(amounts, (("ann", 100), ("wat", 500)))


if __name__ == "__main__":
    unittest.main()
