"""The "pay" of [7.3], [7.5] and [7.6]."""

import unittest

from arenas import replaced, seal_row
from bridges import BACK, FAULT, NOTE, ODD, ODDITIES, WatchedBridge, pay_deed
from onewatcher.assembly import read_program
from onewatcher.histories import history_of
from onewatcher.seals import MAX_PART, WORD
from onewatcher.states import fields_of, state_seals, written_chain

ENTRIES = (("ann", 50, 20), ("bob", 7, 0))
# Writes as long as it runs.
WRITER = read_program("set r1 5\nagain: write r1\njump again")


class PayTest(unittest.TestCase):
    def begin(self, program=BACK, level=5, entries=ENTRIES, **more):
        self.watched = WatchedBridge(self, program=program, level=level, **more)
        self.notary = self.watched.notary
        self.bridge = self.watched.bridge
        self.run = self.watched.ask(*entries)
        self.deed = pay_deed(self.notary, self.run)
        self.history = history_of(self.notary, self.run.seals())

    def closed(self, **more):
        self.begin(**more)
        self.watched.confirm(self.history, 1)

    def do(self, deed, sender="dan"):
        """The answer to a deed; what it asks the notary is bounded, and it seals nothing."""
        size, finds = self.notary.size(), self.notary.finds()
        answer = self.watched.do(sender, deed, 5)
        self.assertEqual(self.notary.size(), size)
        words = deed[3] if len(deed) == 4 and isinstance(deed[3], tuple) else ()
        self.assertLessEqual(self.notary.finds(), finds + 2 + len(words))
        return answer

    def test_the_plain_run_from_anybody(self):
        for name in ("ann", "eve", "nobody", "vault"):
            self.closed()
            self.assertEqual(self.do(self.deed, name), "ok")
            self.assertEqual([self.watched.accounts.amount(name) for name in ("ann", "bob", "vault")],
                             [1000, 1000, 0])
            self.assertIs(self.bridge.is_paid(1), True)
            self.assertEqual(self.do(self.deed), "none")

    def test_none_and_early(self):
        self.watched = WatchedBridge(self, level=5)
        self.notary = self.watched.notary
        self.assertEqual(self.do(("pay", ("step", 1), (0,) * 9, ())), "none")
        self.begin()
        # Nothing of it is right, but the first word of the list is the answer.
        wrong = ("pay", ("step", 1), (0,) * 9, (7,))
        self.assertEqual(self.do(wrong), "early")
        self.assertEqual(self.do(self.deed), "early")
        span = (5, 0, 0, self.run.start(), self.history)
        self.watched.ok("eve", ("arena", 1, ("claim", self.history)), 1)
        self.assertEqual(self.do(self.deed), "early")
        self.watched.ok("eve", ("arena", 1, ("gather", span)), 4)
        self.assertEqual(self.do(self.deed), "early")
        self.watched.ok("eve", ("arena", 1, ("close", span)), 4)
        self.assertEqual(self.do(wrong), "wrong")
        self.assertEqual(self.do(self.deed), "ok")
        self.assertEqual(self.do(wrong), "none")

    def test_bad_openings(self):
        self.closed()
        _, opening, fields, words = self.deed
        rows = [opening[:3], opening + (1,), ("step",) + opening[1:], ("join",), (), list(opening), opening[1:], 7]
        for at in (1, 2, 3):
            rows += [replaced(opening, at, value) for value in ODDITIES + (0, MAX_PART + 1)]
        rows += [replaced(opening, 0, value) for value in ("Join", "", 1, None, ("join",))]
        for row in rows + list(ODDITIES):
            self.assertEqual(self.do(("pay", row, fields, words)), "bad", row)
        self.assertEqual(self.do(("pay", opening, fields, words)), "ok")

    def test_bad_fields(self):
        self.closed()
        _, opening, fields, words = self.deed
        rows = [fields[:8], fields + (0,), (), list(fields), "fields", 9, None]
        for at in range(9):
            rows += [replaced(fields, at, value) for value in ODDITIES + (MAX_PART + 1,)]
        for row in rows:
            self.assertEqual(self.do(("pay", opening, row, words)), "bad", row)
        self.assertEqual(self.do(("pay", opening, (MAX_PART,) * 9, words)), "fields")

    def test_bad_words(self):
        self.closed()
        _, opening, fields, words = self.deed
        rows = [list(words), "words", 3, None, (0,) * 1025, words + ((),)]
        for at in (0, len(words) - 1):
            rows += [replaced(words, at, value) for value in ODDITIES + (WORD,)]
        for row in rows:
            self.assertEqual(self.do(("pay", opening, fields, row)), "bad", row)
        for deed in (("pay",), ("pay", opening), ("pay", opening, fields), ("pay", opening, fields, words, 0)):
            self.assertEqual(self.do(deed), "bad")
        self.assertEqual(self.do(("pay", opening, fields, (0,) * 1024)), "words")

    def test_wrong_openings(self):
        self.closed()
        _, opening, fields, words = self.deed
        rows = [replaced(opening, at, opening[at] + 1) for at in (1, 2, 3)]
        rows += [replaced(opening, at, MAX_PART) for at in (1, 2, 3)]
        rows += [("step", opening[3]), ("join", opening[2], opening[1], opening[3]), ("step", MAX_PART)]
        # An opening that is sealed, but of another history.
        other = history_of(self.notary, replaced(self.run.seals(), 0, 1))
        rows.append(self.notary.parts_of(other))
        rows.append(self.notary.parts_of(opening[1]))
        for row in rows:
            self.assertEqual(self.do(("pay", row, fields, words)), "wrong", row)
            # Fields and words are looked at behind it.
            self.assertEqual(self.do(("pay", row, (0,) * 9, (1,))), "wrong", row)
        self.assertEqual(self.do(self.deed), "ok")

    def test_wrong_fields(self):
        self.closed()
        _, opening, fields, words = self.deed
        rows = [replaced(fields, at, fields[at] + 1) for at in range(9)]
        rows += [fields_of(self.notary, self.run.state_at(n)) for n in (0, 5, 18)]
        rows.append((0,) * 9)
        for row in rows:
            self.assertEqual(self.do(("pay", opening, row, words)), "fields", row)
            self.assertEqual(self.do(("pay", opening, row, (1,))), "fields", row)
        self.assertEqual(self.do(self.deed), "ok")

    def test_wrong_words(self):
        self.closed()
        _, opening, fields, words = self.deed
        self.assertEqual(words, (0, 50, 1, 7))
        rows = [replaced(words, at, words[at] + 1) for at in range(4)]
        rows += [words[:n] for n in range(4)] + [words[1:], words + (0,), words[::-1], words + words]
        for row in rows:
            self.assertEqual(self.do(("pay", opening, fields, row)), "words", row)
        # Chains that are there, but of other words.
        for row in rows:
            written_chain(self.notary, row)
            self.assertEqual(self.do(("pay", opening, fields, row)), "words", row)
        self.assertEqual(self.do(self.deed), "ok")

    def test_a_missing_chain_does_not_lead_on(self):
        # ("wrote", 0, 0) is there; a chain without a seal must not count as the empty one.
        self.closed(program=(("write", 0), ("stop",)), level=2, entries=(("ann", 5, 0),))
        _, opening, fields, words = self.deed
        self.assertEqual(words, (0,))
        for row in ((9, 0), (9, 9, 0), (0, 9, 0)):
            self.assertEqual(self.do(("pay", opening, fields, row)), "words", row)

    def test_no_words(self):
        self.closed(program=(("stop",),), level=0, entries=(("ann", 5, 0),))
        self.assertEqual(self.deed[1], ("step", self.run.seals()[0]))
        self.assertEqual((self.deed[2][7], self.deed[3]), (0, ()))
        written_chain(self.notary, (0,))
        self.assertEqual(self.do(("pay", self.deed[1], self.deed[2], (0,))), "words")
        self.assertEqual(self.do(("pay", self.deed[1], self.deed[2], (7,))), "words")
        self.assertEqual(self.do(self.deed), "ok")
        self.assertEqual(self.bridge.rest(), 5)

    def test_many_words(self):
        self.closed(program=WRITER, level=10, entries=(("ann", 5, 0),))
        _, opening, fields, words = self.deed
        self.assertEqual(len(words), 512)
        self.assertEqual(self.do(self.deed), "ok")
        self.begin(program=(("write", 0),) * 64, level=6, entries=(("ann", 5, 0),))
        self.assertEqual(len(self.deed[3]), 64)

    def test_1024_words(self):
        # No run from the first state writes so much, but a claim may say so.
        self.begin(program=WRITER, level=0, entries=(("ann", 5, 0),))
        last = self.run.state_at(1)
        for count, answer in ((1025, "bad"), (1024, "ok")):
            state = last[:4] + ((1,) * count, 1)
            seal = state_seals(self.notary, (state,))[0]
            if count == 1024:
                self.watched.confirm(history_of(self.notary, (seal,)), 1)
            deed = ("pay", ("step", seal), fields_of(self.notary, state), state[4])
            self.assertEqual(self.do(deed), answer)
        self.assertEqual([self.watched.accounts.amount(name) for name in ("ann", "bob")], [995, 1005])

    def test_numbers_that_hide_as_seals(self):
        # A history that is no seal can be confirmed, but nothing can be shown about it.
        self.begin()
        self.watched.confirm(MAX_PART, 1)
        for row in (self.deed[1], ("step", 1), ("join", 1, 2, 3)):
            self.assertEqual(self.do(("pay", row, self.deed[2], self.deed[3])), "wrong")
        # One whose last state is no seal has an opening, but no fields.
        self.begin()
        history = seal_row(self.notary, None, replaced(self.run.seals(), 31, MAX_PART))
        self.watched.confirm(history, 1)
        deed = ("pay", self.notary.parts_of(history), self.deed[2], self.deed[3])
        self.assertEqual(self.do(deed), "fields")
        self.assertEqual(self.do(self.deed), "wrong")

    def test_another_history_with_the_same_last_state(self):
        # What is confirmed counts: here it is not the plain run, which ends in the same state.
        self.begin()
        history = seal_row(self.notary, None, replaced(self.run.seals(), 3, 1))
        self.watched.confirm(history, 1)
        self.assertEqual(self.do(self.deed), "wrong")
        deed = ("pay", self.notary.parts_of(history)) + self.deed[2:]
        self.assertEqual(self.do(deed), "ok")

    def test_other_programs(self):
        for program, words, status, rest in ((NOTE, (1, 20), 1, 37), (ODD, (0,), 1, 0), (FAULT, (0, 0), 2, 0)):
            self.closed(program=program, level=3)
            self.assertEqual((self.deed[3], self.deed[2][8]), (words, status))
            self.assertEqual(self.do(self.deed), "ok")
            self.assertEqual(self.bridge.rest(), rest)

    def test_a_run_that_has_not_stopped(self):
        # Level 3 is not enough for these entries: everybody gets back what was put.
        self.closed(level=3)
        self.assertEqual((self.deed[2][8], self.deed[3]), (0, (0, 50)))
        self.assertEqual(self.do(self.deed), "ok")
        self.assertEqual([self.watched.accounts.amount(name) for name in ("ann", "bob", "vault")], [1000, 1000, 0])

    def test_the_rest_goes_to_the_next_question(self):
        self.closed(program=NOTE, level=3, entries=(("ann", 50, 20),))
        self.assertEqual(self.do(self.deed), "ok")
        self.assertEqual([self.watched.accounts.amount(name) for name in ("ann", "bob", "vault")], [950, 1020, 30])
        run = self.watched.ask(("cat", 5, 33), height=20)
        self.assertEqual(self.bridge.rest(), 30)
        self.watched.settle(run, 21)
        self.assertEqual([self.watched.accounts.amount(name) for name in ("bob", "cat", "vault")], [1053, 995, 2])
        self.assertEqual(self.bridge.rest(), 2)
        # More than the pot is never paid.
        run = self.watched.ask(("cat", 5, WORD - 1), height=40)
        self.watched.settle(run, 41)
        self.assertEqual([self.watched.accounts.amount(name) for name in ("bob", "cat", "vault")], [1060, 990, 0])

    def test_entries_behind_the_asking_do_not_count(self):
        self.begin(program=NOTE, level=3, entries=(("ann", 50, 60),))
        self.watched.ok("cat", ("put", 100, 0))
        self.watched.confirm(self.history, 1)
        self.assertEqual(self.do(self.deed), "ok")
        self.assertEqual([self.watched.accounts.amount(name) for name in ("bob", "cat", "vault")], [1050, 900, 100])
        self.assertEqual((self.bridge.rest(), self.bridge.inbox()), (0, [(2, 100, 0)]))

    def test_a_vault_that_is_robbed(self):
        # Somebody called like the vault takes money out of it; the paying raises nothing even then.
        self.begin(entries=(("ann", 150, 20), ("bob", 7, 0)))
        accounts = self.watched.accounts
        span = (5, 0, 0, self.run.start(), self.history)
        for deed in (("claim", self.history), ("gather", span), ("close", span)):
            self.assertEqual(self.bridge.apply("vault", ("arena", 1, deed), 5 if deed[0] != "claim" else 1, accounts),
                             "ok")
        self.assertEqual(accounts.amount("vault"), 57)
        self.assertEqual(self.bridge.apply("eve", self.deed, 5, accounts), "ok")
        self.assertIs(self.bridge.is_paid(1), True)
        self.assertEqual(accounts.total(), self.watched.total)


if __name__ == "__main__":
    unittest.main()
