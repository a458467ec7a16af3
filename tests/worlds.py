"""What the tests of the world share: a world in which all that must hold at each head is looked at."""

from bridges import BACK, shown
from onewatcher.accounts import Accounts
from onewatcher.bounds import latest_closing, outlay_bound, rival_counts
from onewatcher.bridge import Bridge
from onewatcher.histories import history_of
from onewatcher.spans import root_span
from onewatcher.truth import Truth
from onewatcher.watcher import Watcher
from onewatcher.world import World

MEMBERS = ("ann", "bob")
AMOUNTS = {"ann": 500, "bob": 400, "eve": 3000, "mal": 3000, "wat": 2000}


class Observed:
    """A world whose acts are observed. The watcher is called wat, and is no member."""

    def __init__(self, test, level=3, patience=2, needed=None, window=None, program=BACK, amounts=None,
                 root_stake=100, half_stake=7, members=MEMBERS):
        self.test = test
        self.level, self.patience = level, patience
        self.needed = needed or (level + 1) * patience + 1
        self.window = window or patience
        self.stakes = (root_stake, half_stake)
        self.program, self.members = program, members
        self.given = dict(amounts or AMOUNTS)
        self.amounts = dict(self.given)
        self.world = World(program, members, self.given, level, self.needed, root_stake, half_stake, self.window,
                           patience, "wat")
        test.assertEqual(self.given, self.amounts)
        self.ledger, self.notary = self.world.ledger(), self.world.notary()
        self.truths = {}
        self.sent = 0
        self.held = None

    def bridge(self):
        return self.ledger.contract()

    def arena(self, number=1):
        return self.ledger.contract().arena(number)

    def truth(self, number=1):
        """The truth of a question at the head."""
        run = self.world.run_of(number)
        key = (run.words(), self.level)
        if key not in self.truths:
            self.truths[key] = Truth(self.notary, run)
        return self.truths[key]

    def pool(self):
        return [letter for letter, _ in self.ledger.pool()]

    def letters(self):
        """All letters that were ever sent, in order."""
        letters = [letter for block in self.ledger.blocks() for letter in block]
        return sorted(letters + self.pool())

    def new_letters(self):
        """The (sender, deed) of the letters that were sent since this was asked for the last time."""
        letters = {letter[0]: letter[1:] for block in self.ledger.blocks() for letter in block}
        letters.update({letter[0]: letter[1:] for letter in self.pool()})
        found = [letters[number] for number in range(self.sent + 1, len(letters) + 1)]
        self.sent = len(letters)
        return found

    def act(self, *act):
        """Do an act; returns what the act returns. The letters that came of it are in `held`."""
        test, head = self.test, self.ledger.head()
        self.new_letters()
        contract, accounts, pool = self.bridge(), self.ledger.accounts(), self.pool()
        found = self.world.act(act)
        test.assertIsInstance(found, tuple)
        if act[0] == "block":
            test.assertEqual(self.ledger.head(), head + 1)
            test.assertEqual(found, self.ledger.answers(head + 1))
            self.replay(contract, accounts, found)
        else:
            test.assertEqual(found, ())
        looks = act[0] in ("block", "back")
        self.held = self.new_letters()
        if looks:
            self.check_watcher()
            self.check_whole()
        elif isinstance(act[0], str) and len(act) > 1:
            test.assertTrue(all(sender == act[1] for sender, _ in self.held))
            test.assertEqual(self.pool()[:len(pool)], pool)
            test.assertEqual(self.ledger.head(), head)
        return found

    def check_watcher(self):
        """[8.4]: what was sent behind a block or a turning back is what is wanted and was not in the pool."""
        waiting = [deed for number, sender, deed in self.pool()
                   if sender == "wat" and number <= self.sent - len(self.held)]
        watcher = Watcher(self.notary, "wat")
        wanted = watcher.deeds(self.bridge(), self.ledger.head())
        self.test.assertEqual(self.held, [("wat", deed) for deed in wanted if deed not in waiting])

    def replay(self, contract, accounts, answers):
        """[6.18]: the letters of the last block, carried out once more one by one."""
        height = self.ledger.head()
        for (_, sender, deed), answer in zip(self.ledger.blocks()[-1], answers):
            size, finds = self.notary.size(), self.notary.finds()
            self.test.assertEqual(contract.apply(sender, deed, height, accounts), answer)
            if deed != ("ask",):
                words = deed[3] if isinstance(deed, tuple) and len(deed) == 4 and deed[0] == "pay" else ()
                self.test.assertLessEqual(self.notary.finds(), finds + max(24, 2 + len(words)))
                self.test.assertEqual(self.notary.size(), size)
        self.test.assertEqual(shown(contract), shown(self.bridge()))
        for name in accounts.names() + self.ledger.accounts().names():
            self.test.assertEqual(accounts.amount(name), self.ledger.accounts().amount(name))

    def check_anew(self):
        """[5.4]: bridge, accounts and outcome are those of the blocks that are left, carried out anew."""
        root_stake, half_stake = self.stakes
        bridge = Bridge(self.notary, self.program, self.members, self.level, self.needed, root_stake, half_stake,
                        self.window)
        accounts = Accounts(self.amounts)
        asked, paid = [], []
        for height, block in enumerate(self.ledger.blocks(), start=1):
            for _, sender, deed in block:
                answer = bridge.apply(sender, deed, height, accounts)
                if answer == "ok" and deed[0] == "ask":
                    asked.append(height)
                if answer == "ok" and deed[0] == "pay":
                    paid.append((height, deed[3]))
        rows = tuple((n, asked[n - 1], height, words) for n, (height, words) in enumerate(paid, start=1))
        amounts = tuple((name, accounts.amount(name)) for name in accounts.names())
        self.test.assertEqual(self.world.outcome(), (self.ledger.head(), rows, amounts))
        self.test.assertEqual(shown(self.bridge()), shown(bridge))

    def check_whole(self):
        """What holds at each head, over the whole program."""
        test, bridge, accounts = self.test, self.bridge(), self.ledger.accounts()
        test.assertEqual(accounts.total(), sum(self.amounts.values()))
        head = self.ledger.head()
        for letter, due in self.ledger.pool():
            test.assertTrue(head < due <= head + self.patience)
        test.assertEqual([letter[0] for letter in self.letters()], list(range(1, len(self.letters()) + 1)))
        numbers = range(1, bridge.number() + 1)
        due = bridge.rest() + sum(entry[1] for entry in bridge.inbox())
        due += sum(entry[1] for n in numbers if not bridge.is_paid(n) for entry in bridge.entries(n))
        test.assertEqual(accounts.amount("vault"), due)
        for number in numbers:
            arena = bridge.arena(number)
            test.assertEqual(accounts.amount("purse{}".format(number)), arena.stakes())
            if arena.is_shared():
                test.assertEqual(arena.stakes(), 0)
            self.check_guarantee(number, arena)
        test.assertEqual(self.given, self.amounts)

    def paid_by_watcher(self, arena):
        """What the watcher has paid for an arena."""
        root_stake, half_stake = self.stakes
        spans = arena.spans()
        paid = sum(root_stake for span in spans if arena.payer(span) == "wat")
        return paid + sum(half_stake for span in spans if arena.halver(span) == "wat")

    def check_guarantee(self, number, arena):
        """[10.1], items 1 to 4."""
        test, truth, head = self.test, self.truth(number), self.ledger.head()
        opened, root, most = arena.opened(), truth.root(), (self.level + 1) * self.patience
        seals = truth.run().seals()
        test.assertEqual(root, root_span(arena.question(), history_of(self.notary, seals)))
        closed = arena.closed_at()
        for count in rival_counts(arena, truth, head if closed is None else closed):
            test.assertLessEqual(count, most)
        if head >= opened + self.patience:
            test.assertTrue(arena.is_posted(root))
            made = arena.made(root)
            test.assertLessEqual(made, opened + self.patience)
            count = arena.count(root, head)
            test.assertTrue(count == self.needed or count >= head - made - most)
        if head >= latest_closing(opened, self.level, self.patience, self.needed):
            test.assertIsNotNone(closed)
        test.assertIn(arena.confirmed(), (None, root))
        test.assertLessEqual(self.paid_by_watcher(arena), outlay_bound(arena, "wat"))

    def check_end(self):
        """[10.1], item 5, and what everybody has when all is settled."""
        test, bridge, accounts = self.test, self.bridge(), self.ledger.accounts()
        test.assertEqual(self.pool(), [])
        gains = 0
        for number in range(1, bridge.number() + 1):
            arena, truth = bridge.arena(number), self.truth(number)
            test.assertTrue(arena.is_shared() and bridge.is_paid(number))
            test.assertEqual(arena.confirmed(), truth.root())
            test.assertEqual(accounts.amount("purse{}".format(number)), 0)
            lost = [span for span in arena.spans() if not truth.is_true(span)
                    and (arena.payer(span) or arena.halver(span)) is not None]
            gains += arena.payer(truth.root()) == "wat" and len(lost) > 0
        test.assertGreaterEqual(accounts.amount("wat"), self.amounts["wat"] + gains)
        _, paid, _ = self.world.outcome()
        test.assertEqual([row[0] for row in paid], list(range(1, bridge.number() + 1)))
        for number, _, _, words in paid:
            run = self.world.run_of(number)
            test.assertEqual(words, run.state_at(1 << self.level)[4])

    def ask(self, *entries):
        """Put entries (name, amount, note) and ask, in two blocks."""
        for name, amount, note in entries or (("ann", 50, 1),):
            self.act("send", name, ("put", amount, note))
        self.act("block", tuple(letter[0] for letter in self.pool()))
        self.act("send", "ann", ("ask",))
        self.act("block", (self.pool()[-1][0],))
        self.test.assertEqual(self.bridge().open_number(), self.bridge().number())

    def block(self, *senders):
        """A block that begins with all letters of these senders."""
        return self.act("block", tuple(letter[0] for name in senders for letter in self.pool() if letter[1] == name))

    def wait(self, count):
        for _ in range(count):
            self.act("block", ())
