"""[5.1] to [5.8] with the bridge as the contract: the state is that of the letters carried out one by one."""

import unittest

from bridges import BACK, MEMBERS, ODDITIES, pay_deed, plain_run, shown
from onewatcher.accounts import Accounts
from onewatcher.bridge import Bridge
from onewatcher.histories import history_of
from onewatcher.ledger import Ledger
from onewatcher.seals import Notary

AMOUNTS = {"ann": 300, "bob": 120, "cat": 50, "eve": 260}
NAMES = ("ann", "bob", "cat", "eve", "vault", "purse1", "purse2", "purse3")


class BridgeLedgerTest(unittest.TestCase):
    def begin(self, patience, window=2):
        self.notary = Notary()
        self.window = window
        self.ledger = Ledger(self.make(), Accounts(AMOUNTS), patience)

    def make(self):
        return Bridge(self.notary, BACK, MEMBERS, 4, 3, 100, 7, self.window)

    def check(self):
        """Bridge, accounts and answers are those of the letters, carried out one by one."""
        ledger = self.ledger
        bridge, accounts = self.make(), Accounts(AMOUNTS)
        for height, block in enumerate(ledger.blocks(), start=1):
            answers = [bridge.apply(sender, deed, height, accounts) for _, sender, deed in block]
            self.assertEqual(ledger.answers(height), tuple(answers))
        self.assertEqual(shown(ledger.contract()), shown(bridge))
        self.assertEqual([ledger.accounts().amount(name) for name in NAMES],
                         [accounts.amount(name) for name in NAMES])
        self.assertEqual(ledger.accounts().total(), sum(AMOUNTS.values()))
        for letter, due in ledger.pool():
            self.assertTrue(ledger.head() < due <= ledger.head() + ledger.patience())

    def test_a_question_from_the_asking_to_the_sharing(self):
        self.begin(2)
        ledger = self.ledger
        self.assertEqual([ledger.send("ann", ("put", 40, 1)), ledger.send("eve", ("ask",)),
                          ledger.send("eve", ("put", 1, 1)), ledger.send("bob", ("put", 121, 0))], [1, 2, 3, 4])
        self.assertEqual(ledger.add_block((2, 1)), ("empty", "ok"))
        self.assertEqual(ledger.add_block(()), ("stranger", "poor"))
        ledger.send("eve", ("ask",))
        ledger.add_block((5,))
        self.assertEqual(ledger.contract().arena(1).opened(), 3)
        run = plain_run(ledger.contract(), self.notary, 1)
        history = history_of(self.notary, run.seals())
        span = (4, 0, 0, run.start(), history)
        deeds = [("arena", 1, ("claim", history)), ("arena", 1, ("gather", span)), ("arena", 1, ("close", span)),
                 pay_deed(self.notary, run), ("arena", 1, ("share",))]
        ledger.send("eve", deeds[0])
        self.assertEqual(ledger.add_block((6,)), ("ok",))
        for deed in deeds[1:]:
            ledger.send("eve", deed)
        # At the height 7 the claim has stood for three blocks.
        ledger.add_block(())
        self.assertEqual(ledger.add_block(()), ("ok", "early", "early", "open"))
        self.assertIs(ledger.turn_back(1), True)
        self.assertEqual(ledger.add_block((9,)), ("early", "ok", "early", "open"))
        for deed in deeds[1:]:
            ledger.send("eve", deed)
        self.assertEqual(ledger.add_block((11, 12, 13, 14)), ("ok", "ok", "ok", "early"))
        self.check()
        self.assertEqual(ledger.accounts().amount("ann"), 300)
        ledger.add_block(())
        ledger.add_block(())
        ledger.send("ann", ("arena", 1, ("share",)))
        self.assertEqual(ledger.add_block((15,)), ("ok",))
        self.assertEqual(ledger.accounts().amount("eve"), 260)
        self.check()
        self.assertIs(ledger.turn_back(4), True)
        self.assertEqual((ledger.contract().is_paid(1), ledger.accounts().amount("ann")), (False, 260))
        self.check()

    def test_turning_back_below_the_asking(self):
        self.begin(3)
        ledger = self.ledger
        ledger.send("ann", ("put", 40, 1))
        ledger.add_block((1,))
        ledger.send("ann", ("ask",))
        ledger.send("bob", ("put", 7, 7))
        ledger.add_block((2, 3))
        self.assertEqual(ledger.contract().entries(1), ((0, 40, 1),))
        self.assertEqual(ledger.contract().inbox(), [(1, 7, 7)])
        ledger.turn_back(1)
        self.assertEqual((ledger.contract().number(), ledger.contract().inbox()), (0, [(0, 40, 1)]))
        ledger.add_block((3, 2))
        self.assertEqual(ledger.contract().entries(1), ((0, 40, 1), (1, 7, 7)))
        ledger.turn_back(2)
        self.assertEqual((ledger.contract().inbox(), ledger.accounts().amount("vault")), ([], 0))
        self.check()

    def test_what_is_given_and_returned_is_a_copy(self):
        self.begin(1)
        held = self.make()
        accounts = Accounts(AMOUNTS)
        ledger = Ledger(held, accounts, 1)
        held.apply("ann", ("put", 5, 5), 1, accounts)
        self.assertEqual((ledger.contract().inbox(), ledger.accounts().amount("vault")), ([], 0))
        ledger.contract().apply("ann", ("put", 5, 5), 1, ledger.accounts())
        ledger.send("ann", ("put", 6, 6))
        ledger.add_block((1,))
        ledger.contract().apply("ann", ("ask",), 1, ledger.accounts())
        self.assertEqual(ledger.contract().inbox(), [(0, 6, 6)])
        self.assertEqual(held.inbox(), [(0, 5, 5)])

    def wanted(self, bridge):
        """The deeds that bring the last question nearer to its end."""
        number = bridge.number()
        arena = bridge.arena(number)
        if arena is None or bridge.is_paid(number) and arena.is_shared():
            return [("put", 1 + self.chance(60), self.chance(3)), ("ask",)]
        run = plain_run(bridge, self.notary, number)
        history = history_of(self.notary, run.seals())
        span = (4, 0, 0, run.start(), history)
        rows = [("arena", number, ("share",)), pay_deed(self.notary, run)]
        if arena.closed_at() is None:
            rows = [("arena", number, deed) for deed in (("gather", span), ("close", span))]
        return rows if arena.is_posted(span) else [("arena", number, ("claim", history))]

    def deeds(self):
        """Deeds as they come: good ones and others."""
        bridge = self.ledger.contract()
        if self.chance(3) > 0:
            return self.wanted(bridge)
        rows = [("put", 1 + self.chance(60), self.chance(3)), ("put", 0, 0), ("ask",), ("ask",)]
        rows.append(ODDITIES[self.chance(len(ODDITIES))])
        # A rival that nobody halves would keep the question open for ever, so there is seldom one.
        rows += [("arena", bridge.number(), deed) for deed in (("claim", self.chance(60) // 59), ("share",), None)]
        return rows

    def chance(self, count):
        self.number = (self.number * 1103515245 + 12345) % 2 ** 31
        return self.number // 65536 % count

    def test_many_ways(self):
        paid = 0
        for seed in range(20):
            self.number = seed * 7919 + 5
            self.begin(1 + seed % 4, window=1 + seed % 2)
            for _ in range(120):
                what = self.chance(10)
                if what < 6:
                    rows = self.deeds()
                    for deed in rows:
                        self.ledger.send(("ann", "bob", "cat", "eve")[self.chance(4)], deed)
                elif what < 9:
                    sent = len(self.ledger.pool()) + 30
                    self.ledger.add_block(tuple(self.chance(sent) for _ in range(3)))
                else:
                    self.ledger.turn_back(min(self.chance(4), self.ledger.head()))
                if what > 7:
                    self.check()
            self.check()
            paid += sum(self.ledger.contract().is_paid(number) for number in range(1, 9))
        self.assertGreater(paid, 10)


if __name__ == "__main__":
    unittest.main()
