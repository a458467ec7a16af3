"""[10.1] to [10.3] and [8.4]: whatever all others do, the watcher gets the true claim confirmed, and loses nothing."""

import unittest

from arenas import halving, seal_row
from bridges import BACK, NOTE
from onewatcher import papers
from onewatcher.assembly import read_program
from onewatcher.bounds import latest_closing, least_needed
from onewatcher.histories import history_of
from onewatcher.lies import forged_row
from onewatcher.scripts import read_script
from onewatcher.seals import MAX_PART
from worlds import Observed

# Fills the memory with what it reads, and writes what it finds there.
STORE = read_program("again: left r0\nzero r0 done\nread r1\nstore r1 r0\nload r2 r0\nadd r3 r3 r2\njump again\n"
                     "done: write r0\nwrite r3\nstop")


class ScriptTest(unittest.TestCase):
    def settled(self, seen):
        """To the end: the closing is not later than it must be, and everything holds."""
        number = seen.bridge().number()
        for _ in range(400):
            if seen.pool() or seen.bridge().open_number() or not seen.arena(number).is_shared():
                seen.act("block", ())
        seen.check_end()
        seen.check_anew()
        latest = latest_closing(seen.arena(number).opened(), seen.level, seen.patience, seen.needed)
        self.assertLessEqual(seen.arena(number).closed_at(), latest)

    def test_a_script_with_all_lines(self):
        script = ("ann puts 40 1\nbob puts 9 9\nblock 1\nblock 2\neve asks\nblock 3\neve lies 3 0 9\nmal forges 9 4\n"
                  "eve lies 12 2 4294967295\nblock\nblock 6 5\neve cuts\nblock\nmal cuts\neve papers\nback 2\nblock\n"
                  "mal gathers\nblock\neve cuts\nblock\neve cuts\neve papers\nblock")
        seen = Observed(self, level=4, patience=2)
        for act in read_script(script):
            seen.act(*act)
        self.settled(seen)
        self.assertEqual(seen.world.outcome()[1][0][3], seen.world.run_of(1).state_at(16)[4])

    def test_late_claims_at_each_level(self):
        # Each time that the true spans have stood for a while, the next false claim comes.
        for level, patience in ((1, 1), (2, 2), (3, 1), (4, 3)):
            seen = Observed(self, level=level, patience=patience)
            seen.ask()
            for at in range(min(6, 1 << level)):
                seen.wait(patience + at % 3)
                seen.act("forge", "eve", (at * 5) % (1 << level), at)
                seen.block("eve")
                seen.act("cut", "eve")
                seen.block("eve")
                seen.act("paper", "mal")
                seen.act("gather", "mal")
            self.settled(seen)

    def test_the_letters_of_the_watcher_come_last(self):
        # Everything that others send is carried out at once; the watcher waits as long as it can be kept out.
        for level, patience in ((0, 3), (2, 3), (3, 2)):
            seen = Observed(self, level=level, patience=patience)
            seen.ask()
            for turn in range(5 * level + 8):
                if turn % 4 == 0:
                    seen.act("forge", "eve", turn % (1 << level), turn)
                seen.act("cut", "mal")
                seen.act("paper", "eve")
                seen.act("gather", "eve")
                seen.block("eve", "mal")
            self.settled(seen)

    def test_turning_back_again_and_again(self):
        seen = Observed(self, level=3, patience=3)
        seen.ask()
        opened = seen.ledger.head()
        for turn in range(30):
            if turn % 5 == 0:
                seen.act("forge", "eve", turn % 8, turn)
            if turn % 3 == 0:
                seen.act("cut", "mal")
            seen.block(("eve", "mal", "wat")[turn % 3])
            if turn % 4 == 3:
                seen.act("back", min(1 + turn % 7, seen.ledger.head() - opened))
                seen.check_anew()
        seen.act("back", seen.ledger.head() - opened)
        self.settled(seen)

    def test_the_true_claim_of_somebody_else(self):
        for name in ("eve", "ann"):
            seen = Observed(self, level=2, patience=2)
            seen.ask()
            seen.act("send", name, ("arena", 1, ("claim", seen.truth().root()[4])))
            seen.block(name)
            seen.act("forge", "mal", 1, 1)
            seen.block("mal")
            self.settled(seen)
            self.assertEqual(seen.arena().payer(seen.truth().root()), name)
            amounts = dict(seen.world.outcome()[2])
            self.assertGreater(amounts[name], seen.amounts[name])
            self.assertGreater(amounts["wat"], seen.amounts["wat"])
            self.assertLess(amounts["mal"], seen.amounts["mal"])

    def test_a_true_claim_that_comes_late(self):
        # A false claim may stand alone for a patience; that is not enough.
        for level, patience in ((0, 1), (0, 4), (3, 3)):
            seen = Observed(self, level=level, patience=patience)
            self.assertEqual(seen.needed, least_needed(level, patience))
            seen.act("send", "ann", ("put", 50, 1))
            seen.act("block", (1,))
            seen.act("send", "ann", ("ask",))
            seen.act("block", (2,))
            seen.act("forge", "eve", 0, 0)
            seen.block("eve")
            seen.wait(patience - 1)
            self.assertIs(seen.arena().is_posted(seen.truth().root()), True)
            self.settled(seen)

    def test_a_watcher_with_just_enough(self):
        # The root stake and 2 ** L - 1 half stakes, and a rival for each of the halves.
        for level in (0, 1, 2, 3):
            enough = 100 + 7 * ((1 << level) - 1)
            seen = Observed(self, level=level, patience=1,
                            amounts={"ann": 500, "eve": 9000, "mal": 3000, "bob": 1, "wat": enough})
            seen.ask()
            for at in range(1 << level):
                seen.act("forge", "eve", at, 1)
            seen.block("wat")
            for _ in range(level):
                seen.act("cut", "eve")
                seen.block("wat")
            self.assertEqual(seen.ledger.accounts().amount("wat"), 0)
            self.settled(seen)
            self.assertEqual(seen.arena().halver(seen.truth().root()), "wat" if level else None)

    def test_two_and_three_questions(self):
        for count in (2, 3):
            seen = Observed(self, level=3, patience=2, program=NOTE)
            for number in range(1, count + 1):
                seen.ask(("ann", 20, 10 * number), ("bob", 5, 1))
                self.assertEqual(seen.bridge().number(), number)
                seen.act("forge", "eve", number, number)
                seen.act("lie", "mal", number, 3, 9)
                seen.block("eve")
                seen.act("cut", "mal")
                seen.act("send", "mal", ("arena", 1, ("share",)))
                while seen.bridge().open_number():
                    seen.act("block", ())
            self.settled(seen)
            self.assertEqual([row[3] for row in seen.world.outcome()[1]],
                             [(1, 10 * number) for number in range(1, count + 1)])

    def test_level_10(self):
        seen = Observed(self, level=10, patience=1, program=STORE)
        seen.ask(("ann", 50, 1), ("bob", 60, 2))
        seen.act("lie", "eve", 1000, 1, 5)
        seen.act("forge", "mal", 511, 5)
        seen.act("lie", "eve", 2, 1, 5)
        for _ in range(10):
            seen.act("block", ())
            seen.act("cut", "eve")
        self.settled(seen)
        self.assertEqual(len([span for span in seen.arena().spans() if seen.arena().is_settled(span)]), 3)

    def test_one_step_of_the_machine_at_most(self):
        # [6.18] and [0.1]: while letters are carried out, each paper makes one step, and nothing else makes any.
        seen = Observed(self, level=3, patience=1)
        seen.ask()
        for at in (0, 3, 7):
            seen.act("forge", "eve", at, 1)
        seen.act("block", ())
        plain, counted = papers.step, []
        for _ in range(3):
            seen.act("cut", "eve")
            seen.act("block", ())
        # Behind the halvings the watcher's papers are in the pool.
        bridge, accounts = seen.bridge(), seen.ledger.accounts()
        papers.step = lambda *args: counted.append(args) or plain(*args)
        try:
            for _, sender, deed in seen.pool():
                self.assertEqual(deed[2][0], "paper")
                self.assertEqual(bridge.apply(sender, deed, seen.ledger.head() + 1, accounts), "ok")
        finally:
            papers.step = plain
        self.assertEqual((len(counted), len(seen.pool())), (3, 3))


class AnythingTest(unittest.TestCase):
    """Worlds in which all others do anything they like."""

    def begin(self, seed):
        self.number = seed * 7919 + 11
        level, patience = self.chance(4), 1 + self.chance(4)
        self.seen = Observed(self, level=level, patience=patience,
                             needed=least_needed(level, patience) + self.chance(3),
                             window=patience + self.chance(3), program=(BACK, NOTE, STORE)[self.chance(3)])
        self.seen.ask(("ann", 1 + self.chance(60), self.chance(90)), ("bob", 1 + self.chance(60), self.chance(90)))
        self.opened = self.seen.ledger.head()

    def chance(self, count):
        self.number = (self.number * 1103515245 + 12345) % 2 ** 31
        return self.number // 65536 % count

    def one_of(self, rows):
        return rows[self.chance(len(rows))]

    def any_deed(self):
        """A deed for the arena that no act makes."""
        seen, kind = self.seen, self.chance(8)
        arena, truth, notary = seen.arena(), seen.truth(), seen.notary
        spans = arena.spans() or [truth.root()]
        span = self.one_of(spans)
        row = truth.run().seals()
        if kind == 0:
            return ("claim", self.one_of((1, MAX_PART, notary.size() + 1, truth.root()[4], history_of(notary, row[:1]))))
        if kind == 1:
            # False at several steps, so that it shares more with other false claims than with the true one.
            for _ in range(3):
                row = forged_row(row, self.chance(len(row)), 1 + self.chance(3))
            return ("claim", seal_row(notary, None, row))
        if kind == 2:
            # Sealed without what its halves need.
            return ("claim", history_of(notary, forged_row(row, self.chance(len(row)), 7)))
        if kind == 3 and span[0] > 0 and notary.parts_of(span[4]) is not None and truth.is_true(span):
            return halving(notary, span)
        if kind == 4:
            other = self.one_of(spans)
            return ("show", span, truth.showing(other)[2] if truth.is_true(other) else ())
        if kind == 5:
            return ("share",)
        if kind == 6:
            return ("close", span)
        return self.one_of((("gather", span), ("claim", 0), None, ("paper", span, 1, ()), ("halve", span)))

    def one_act(self):
        seen, kind, name = self.seen, self.chance(12), self.one_of(("eve", "mal", "ann"))
        if kind == 0:
            seen.act("forge", name, self.chance(1 << seen.level), self.chance(4))
        elif kind == 1:
            seen.act("lie", name, self.chance(1 << seen.level), self.chance(4), self.chance(90))
        elif kind < 4:
            seen.act("cut", name)
        elif kind == 4:
            seen.act("paper", name)
        elif kind == 5:
            seen.act("gather", name)
        elif kind == 6:
            seen.act("send", name, ("arena", 1, self.any_deed()))
        elif kind == 7:
            seen.act("send", name, self.one_of((("put", 1 + self.chance(9), 1), None, ("arena", 2, ("share",)))))
        elif kind < 11:
            # The watcher's letters come as late as they can, or anywhere.
            chosen = [letter[0] for letter in seen.pool() if letter[1] != "wat" or self.chance(4) == 0]
            seen.act("block", tuple(number for number in reversed(chosen) if self.chance(5)))
        else:
            self.turn_back()

    def turn_back(self):
        room = self.seen.ledger.head() - self.opened
        self.seen.act("back", min(self.chance(1 + 2 * self.one_of((1, 2, 9))), room))

    def test_anything(self):
        told = {"halved": 0, "settled": 0, "false": 0, "shown": 0}
        for seed in range(90):
            self.begin(seed)
            for _ in range(70):
                self.one_act()
            self.seen.check_anew()
            self.end()
            arena = self.seen.arena()
            for span in arena.spans():
                told["halved"] += arena.is_halved(span)
                told["settled"] += arena.is_settled(span)
                told["shown"] += arena.is_shown(span)
                told["false"] += arena.payer(span) is not None and not self.seen.truth().is_true(span)
        for word, count in told.items():
            self.assertGreater(count, 30, word)

    def end(self):
        seen = self.seen
        for _ in range(300):
            if seen.bridge().open_number() or seen.pool() or not seen.arena().is_shared():
                seen.act("block", ())
        seen.check_end()
        seen.check_anew()
        latest = latest_closing(self.opened, seen.level, seen.patience, seen.needed)
        self.assertLessEqual(seen.arena().closed_at(), latest)


if __name__ == "__main__":
    unittest.main()
