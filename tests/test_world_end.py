"""[9.6] and [9.7]: settling a world, and what it shows."""

import unittest

from bridges import FAULT, NOTE
from worlds import Observed


class SettleTest(unittest.TestCase):
    def blocks_to_the_end(self, seen, number=1):
        """How many blocks it takes until all is settled, counted by hand."""
        count = 0
        while (seen.bridge().open_number() or seen.pool()
               or not all(seen.arena(n).is_shared() for n in range(1, seen.bridge().number() + 1))):
            seen.act("block", ())
            count += 1
        return count

    def asked(self, **more):
        seen = Observed(self, level=4, **more)
        seen.ask()
        return seen

    def test_nothing_to_do(self):
        seen = Observed(self)
        for limit in (0, 1, 50):
            self.assertEqual(seen.world.settle(limit), 0)
        seen.act("send", "ann", ("put", 50, 1))
        seen.act("block", (1,))
        # An entry in the inbox is no open question.
        self.assertEqual(seen.world.settle(50), 0)
        self.assertEqual(seen.ledger.head(), 1)

    def test_letters_in_the_pool(self):
        for patience in (1, 2, 5):
            seen = Observed(self, patience=patience)
            seen.act("send", "ann", ("put", 50, 1))
            self.assertEqual(seen.world.settle(0), 0)
            self.assertEqual(seen.world.settle(50), patience)
            self.assertEqual(seen.pool(), [])

    def test_limits(self):
        for patience, window in ((1, 1), (2, 3)):
            told = self.blocks_to_the_end(self.asked(patience=patience, window=window))
            for limit in (told, told + 1, 10 * told):
                seen = self.asked(patience=patience, window=window)
                self.assertEqual(seen.world.settle(limit), told)
                self.assertEqual(seen.ledger.head(), told + 2)
                seen.check_end()
                self.assertEqual(seen.world.settle(limit), 0)
            seen = self.asked(patience=patience, window=window)
            for limit in (0, 1, told - 2):
                self.assertEqual(seen.world.settle(limit), limit)
            self.assertEqual(seen.world.settle(50), 1)
            seen.check_end()

    def test_a_limit_below_zero(self):
        seen = self.asked()
        self.assertEqual(seen.world.settle(-1), 0)
        self.assertEqual(seen.ledger.head(), 2)

    def test_blocks_without_chosen_letters(self):
        # A letter that is not due waits.
        seen = self.asked(patience=3)
        seen.world.settle(2)
        self.assertEqual([len(block) for block in seen.ledger.blocks()[2:]], [0, 0])
        seen.world.settle(1)
        self.assertEqual(seen.ledger.answers(5), ("ok",))

    def test_an_arena_that_is_shared_and_not_paid(self):
        # Somebody else shares at once; the paying still has to come.
        seen = self.asked(patience=1, window=1)
        while seen.arena().closed_at() is None:
            seen.act("block", ())
        closed = seen.ledger.head()
        # The pay deed of the watcher waits no longer than the sharing.
        seen.act("send", "eve", ("arena", 1, ("share",)))
        seen.act("block", ())
        self.assertEqual(seen.ledger.answers(closed + 1), ("ok", "early"))
        self.assertEqual(seen.world.settle(9), 1)
        seen.check_end()

    def test_an_arena_that_is_paid_and_not_shared(self):
        seen = self.asked(patience=1, window=7)
        while seen.bridge().open_number() == 1:
            seen.act("block", ())
        self.assertEqual(seen.pool(), [])
        head, closed = seen.ledger.head(), seen.arena().closed_at()
        self.assertEqual(head, closed + 1)
        self.assertEqual(seen.world.settle(50), 7)
        self.assertEqual(seen.ledger.head(), closed + 8)
        seen.check_end()

    def test_a_world_that_never_settles(self):
        # Nobody has the money for a claim.
        seen = Observed(self, amounts={"ann": 60, "wat": 0})
        seen.check_whole = lambda: None
        seen.ask()
        self.assertEqual(seen.world.settle(40), 40)
        self.assertEqual(seen.bridge().open_number(), 1)

    def test_a_question_that_is_never_paid(self):
        # A false claim is confirmed, as the watcher has no money, and shared: the pool is empty, the question open.
        seen = Observed(self, patience=1, needed=1, amounts={"ann": 60, "eve": 200, "wat": 0})
        seen.check_whole = lambda: None
        seen.ask()
        seen.act("forge", "eve", 1, 1)
        while seen.arena().closed_at() is None:
            seen.act("gather", "eve")
            seen.act("block", ())
        seen.wait(2)
        seen.act("send", "eve", ("arena", 1, ("share",)))
        seen.act("block", ())
        self.assertEqual((seen.arena().is_shared(), seen.pool(), seen.bridge().open_number()), (True, [], 1))
        self.assertEqual(seen.world.settle(7), 7)


class OutcomeTest(unittest.TestCase):
    def test_without_questions(self):
        seen = Observed(self, amounts={"ann": 50, "bob": 0, "wat": 300, "abe": 0, "zed": 1})
        self.assertEqual(seen.world.outcome(), (0, (), (("ann", 50), ("wat", 300), ("zed", 1))))
        seen.act("send", "ann", ("put", 50, 1))
        seen.act("block", (1,))
        self.assertEqual(seen.world.outcome(), (1, (), (("vault", 50), ("wat", 300), ("zed", 1))))

    def test_an_open_question(self):
        seen = Observed(self, amounts={"ann": 50, "wat": 300})
        seen.ask()
        seen.block("wat")
        self.assertEqual(seen.world.outcome(), (3, (), (("purse1", 100), ("vault", 50), ("wat", 200))))

    def test_one_question(self):
        seen = Observed(self, level=4, patience=1, window=2, amounts={"ann": 50, "wat": 300})
        seen.ask()
        made = seen.world.settle(50)
        head = made + 2
        closed = seen.arena().closed_at()
        self.assertEqual(seen.world.outcome(), (head, ((1, 2, closed + 1, (0, 50)),), (("ann", 50), ("wat", 300))))
        seen.check_anew()

    def test_several_questions(self):
        seen = Observed(self, level=4, patience=1, program=NOTE)
        heights = []
        for entries in ((("ann", 50, 20),), (("bob", 30, 45), ("ann", 1, 0)), (("bob", 5, 99),)):
            seen.ask(*entries)
            heights.append(seen.ledger.head())
            while seen.bridge().open_number():
                seen.act("block", ())
        head, paid, amounts = seen.world.outcome()
        self.assertEqual([row[0] for row in paid], [1, 2, 3])
        self.assertEqual([row[1] for row in paid], heights)
        self.assertEqual([row[2] for row in paid], [seen.arena(n).closed_at() + 1 for n in (1, 2, 3)])
        self.assertEqual([row[3] for row in paid], [(1, 20), (1, 45), (1, 99)])
        self.assertEqual(dict(amounts)["bob"], 400 + 20 - 30 + 45 - 5 + 21)
        self.assertNotIn("vault", dict(amounts))
        seen.check_anew()
        seen.world.settle(99)
        seen.check_end()
        # What was paid is taken back with its block.
        while seen.bridge().number() == 3:
            seen.act("back", 1)
        self.assertEqual(seen.world.outcome()[1], paid[:2])
        seen.act("back", seen.ledger.head())
        self.assertEqual(seen.world.outcome()[:2], (0, ()))

    def test_the_words_of_the_deed_that_paid(self):
        # The amounts come back, but the words are told all the same.
        seen = Observed(self, level=4, program=FAULT)
        seen.ask(("bob", 5, 1))
        seen.world.settle(99)
        _, paid, amounts = seen.world.outcome()
        self.assertEqual((paid[0][3], dict(amounts)["bob"]), ((1, 1), 400))
        seen.check_end()

    def test_answers_that_are_not_ok(self):
        # Deeds that look like asking and paying, but were not carried out.
        seen = Observed(self, level=4, patience=1)
        for deed in (("ask",), "ask", "pay", ("pay",), ("ask", 1), ("pay", 1, 2, (3,)), ()):
            seen.act("send", "eve", deed)
        seen.ask()
        seen.act("send", "eve", ("ask",))
        seen.act("block", ())
        seen.world.settle(99)
        head, paid, _ = seen.world.outcome()
        self.assertEqual((len(paid), paid[0][1]), (1, 2))
        seen.check_anew()


if __name__ == "__main__":
    unittest.main()
