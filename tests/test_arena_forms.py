"""[6.10] and the numbers of an arena: deeds of no form, BadArena, and what an arena shows."""

import unittest

from arenas import STOP, Watched, halving, nested, replaced, seal_row, seen
from onewatcher.accounts import Accounts
from onewatcher.arena import Arena
from onewatcher.errors import BadArena
from onewatcher.machine import first_state
from onewatcher.seals import MAX_PART, Notary
from onewatcher.states import question

SPAN = (2, 4, 5, 6, 7)
JOIN = ("join", 1, 2, 3)
STEP = ("step", 4)
# One deed of each form.
FORMS = (
    ("claim", 5), ("halve", SPAN, JOIN, STEP, STEP), ("halve", SPAN, STEP, JOIN, JOIN), ("paper", SPAN, 5, ()),
    ("gather", SPAN), ("close", SPAN), ("show", SPAN, ()), ("show", SPAN, (JOIN, STEP, JOIN)), ("share",),
)
NO_SEALS = (0, -1, MAX_PART + 1, 2 ** 70, True, False, None, "", "5", "step", (), (5,), SPAN, JOIN, nested(9))
NO_SPANS = (
    0, 5, True, None, "", "span", (), SPAN[:4], SPAN + (1,), (SPAN,), JOIN, STEP, nested(9),
    replaced(SPAN, 0, 11), replaced(SPAN, 0, -1), replaced(SPAN, 0, True), replaced(SPAN, 1, 1024),
    replaced(SPAN, 1, -1), replaced(SPAN, 1, False), replaced(SPAN, 2, -1), replaced(SPAN, 2, MAX_PART + 1),
    replaced(SPAN, 2, True), replaced(SPAN, 3, 0), replaced(SPAN, 3, MAX_PART + 1), replaced(SPAN, 3, True),
    replaced(SPAN, 4, 0), replaced(SPAN, 4, MAX_PART + 1), replaced(SPAN, 4, True), replaced(SPAN, 0, "2"),
    replaced(SPAN, 1, None), replaced(SPAN, 2, ()), replaced(SPAN, 3, "6"), replaced(SPAN, 4, (7,)),
)
NO_OPENINGS = (
    0, 5, True, None, "", "step", "join", (), ("step",), ("step", 0), ("step", True), ("step", -1),
    ("step", MAX_PART + 1), ("step", "4"), ("step", None), ("step", (4,)), ("step", 4, 4), ("step", 1, 2, 3),
    ("join",), ("join", 1, 2), ("join", 1), ("join", 1, 2, 3, 4), ("join", 0, 2, 3), ("join", 1, 0, 3),
    ("join", 1, 2, 0), ("join", True, 2, 3), ("join", 1, True, 3), ("join", 1, 2, True), ("join", "1", 2, 3),
    ("join", 1, MAX_PART + 1, 3), ("join", 1, 2, None), ("join", 1, 2, (3,)), ("pair", 1, 2, 3), ("stop", 4),
    ("Step", 4), ("", 4), (4, 4), (True, 4), (None, 4), ((), 4), (("step", 4),), ("behind", 1, 2), (1, 2, 3, 4),
    nested(9), SPAN,
)
# What may stand at each place of the deeds.
WRONGS = {
    ("claim", 1): NO_SEALS,
    ("halve", 1): NO_SPANS, ("halve", 2): NO_OPENINGS, ("halve", 3): NO_OPENINGS, ("halve", 4): NO_OPENINGS,
    ("paper", 1): NO_SPANS, ("paper", 2): NO_SEALS,
    ("gather", 1): NO_SPANS, ("close", 1): NO_SPANS,
    ("show", 1): NO_SPANS,
    ("show", 2): tuple(wrong for wrong in NO_OPENINGS if wrong not in ((), (STEP,))) + tuple(
        (wrong,) for wrong in NO_OPENINGS) + tuple((JOIN, wrong) for wrong in NO_OPENINGS) + (JOIN, STEP),
}
VALUES = (
    0, 1, -1, True, False, None, "", "claim", "share", "share ", (), ("",), ("claim",), ("Claim", 5), ("claims", 5),
    ("claim", 5, 5), ("halve",), ("show",), ("paper",), ("close",), ("gather",), ("shares",), ("Share",),
    (("share",),), ("share", ()), ("share", 1), ("put", 1, 1), ("ask",), ("pay", 1, 2, 3), ("arena", 1, ("share",)),
    (5, 5), (None,), (True,), ((),), (("claim", 5),), ("bad",), ("ok",), ("post", SPAN), ("open",), "x" * 100,
    (0,) * 20,
) + tuple(nested(depth) for depth in range(13))


class FormsTest(unittest.TestCase):
    def stages(self):
        """An open arena with a halved span, a closed one, and a shared one."""
        watched = Watched(self)
        one = watched.claim("ann", (21, 22, 23, 24), 10)
        other = watched.claim("bob", (21, 22, 25, 24), 11)
        watched.halve("ann", one, 12)
        yield watched, 12
        watched.halve("bob", other, 13)
        yield watched, 14
        quick = Watched(self, needed=1)
        only = quick.claim("ann", (21, 22, 23, 24), 10)
        quick.close(only, 11)
        yield quick, 12
        quick.ok("bob", ("share",), 17)
        yield quick, 18

    def test_deeds_of_a_form_are_not_bad(self):
        for watched, height in self.stages():
            for deed in FORMS:
                self.assertNotEqual(watched.do("eve", deed, height), "bad", deed)

    def test_a_part_of_another_kind_or_out_of_range(self):
        for watched, height in self.stages():
            for deed in FORMS:
                for at in range(1, len(deed)):
                    for wrong in WRONGS.get((deed[0], at), ()):
                        self.assertEqual(watched.do("ann", replaced(deed, at, wrong), height), "bad", (at, wrong))

    def test_a_part_less_and_more(self):
        for watched, height in self.stages():
            for deed in FORMS:
                for more in (0, 5, (), None, SPAN, JOIN):
                    self.assertEqual(watched.do("ann", deed + (more,), height), "bad")
                if len(deed) > 1:
                    self.assertEqual(watched.do("ann", deed[:-1], height), "bad")
                self.assertEqual(watched.do("ann", deed[1:], height), "bad")
                self.assertEqual(watched.do("ann", (deed,), height), "bad")

    def test_other_words(self):
        for watched, height in self.stages():
            for deed in FORMS:
                for word in (deed[0] + "s", deed[0].upper(), deed[0] + " ", "", "put", None, 0, True, (), (deed[0],)):
                    self.assertEqual(watched.do("ann", replaced(deed, 0, word), height), "bad")

    def test_any_value(self):
        for watched, height in self.stages():
            for value in VALUES:
                self.assertEqual(watched.do("ann", value, height), "bad", value)

    def test_the_bounds_of_the_parts(self):
        watched = Watched(self)
        for history in (1, MAX_PART):
            self.assertEqual(watched.do("eve", ("claim", history), 10), "poor")
        for span in ((0, 0, 0, 1, 1), (10, 1023, MAX_PART, MAX_PART, MAX_PART)):
            self.assertEqual(watched.do("eve", ("gather", span), 10), "unknown")
            for state in (1, MAX_PART):
                self.assertEqual(watched.do("eve", ("paper", span, state, None), 10), "unknown")
            for opened in (("step", 1), ("step", MAX_PART), ("join", 1, 1, 1), ("join", MAX_PART, MAX_PART, MAX_PART)):
                self.assertEqual(watched.do("eve", ("halve", span, opened, opened, opened), 10), "unknown")
                self.assertEqual(watched.do("eve", ("show", span, (opened,) * 30), 10), "open")

    def test_a_paper_may_be_any_value(self):
        watched = Watched(self, level=0)
        one = watched.claim("ann", (21,), 10)
        watched.claim("bob", (22,), 10)
        for value in VALUES + NO_SPANS:
            self.assertEqual(watched.do("ann", ("paper", one, 21, value), 11), "wrong")


class NumbersTest(unittest.TestCase):
    def make(self, opened=0, needed=1, root_stake=1, half_stake=1, window=1):
        notary = Notary()
        asked = question(notary, STOP, (), first_state(), 1)
        return Arena(notary, asked, opened, needed, root_stake, half_stake, window)

    def test_numbers_from_1_to_1000000(self):
        for name in ("needed", "root_stake", "half_stake", "window"):
            for value in (1, 2, 999999, 1000000):
                arena = self.make(**{name: value})
                self.assertEqual((arena.needed(), arena.root_stake(), arena.half_stake(), arena.window()),
                                 tuple(value if name == other else 1 for other in
                                       ("needed", "root_stake", "half_stake", "window")))
            for value in (0, -1, -1000000, 1000001, 2 ** 48, True, False):
                with self.assertRaises(BadArena):
                    self.make(**{name: value})

    def test_heights_from_0_to_1000000(self):
        for value in (0, 1, 999999, 1000000):
            self.assertEqual(self.make(opened=value).opened(), value)
        for value in (-1, -1000000, 1000001, 2 ** 48, True, False):
            with self.assertRaises(BadArena):
                self.make(opened=value)

    def test_a_new_arena(self):
        notary = Notary()
        asked = question(notary, STOP, (), first_state(), 4)
        size = notary.size()
        arena = Arena(notary, asked, 10, 11, 12, 13, 14)
        self.assertEqual(notary.size(), size)
        self.assertEqual((arena.question(), arena.opened(), arena.needed(), arena.root_stake(), arena.half_stake(),
                          arena.window()), (asked, 10, 11, 12, 13, 14))
        self.assertEqual(seen(arena), ([], None, None, False, 0, asked, 10, 11, 12, 13, 14))


class ShownTest(unittest.TestCase):
    def setUp(self):
        self.watched = Watched(self, level=1, needed=20)
        self.arena = self.watched.arena
        self.one = self.watched.claim("ann", (21, 22), 10)
        self.other = self.watched.claim("bob", (23, 22), 12)

    def unposted(self):
        """Spans that are like the posted ones, but for one element."""
        for span in self.arena.spans():
            for at in range(5):
                other = replaced(span, at, span[at] + 1)
                if other not in self.arena.spans():
                    yield other
        yield (0, 0, 0, 1, 1)
        yield (10, 1023, MAX_PART, MAX_PART, MAX_PART)

    def test_spans_that_are_not_posted(self):
        self.watched.halve("ann", self.one, 13)
        for span in self.unposted():
            for call in (self.arena.made, self.arena.stored):
                with self.assertRaises(BadArena):
                    call(span)
            for call in (self.arena.own, self.arena.count):
                with self.assertRaises(BadArena):
                    call(span, 14)
            for call in (self.arena.is_posted, self.arena.is_rivalled, self.arena.is_halved, self.arena.is_settled,
                         self.arena.is_shown):
                self.assertIs(call(span), False)
            for call in (self.arena.halves, self.arena.payer, self.arena.halver):
                self.assertIsNone(call(span))

    def test_spans_that_are_posted(self):
        arena = self.arena
        left, right = self.watched.halve("cat", self.one, 13)
        self.assertEqual(arena.spans(), [self.one, self.other, left, right])
        self.assertEqual([arena.made(span) for span in arena.spans()], [10, 12, 13, 13])
        self.assertEqual([arena.is_posted(span) for span in arena.spans()], [True] * 4)
        self.assertEqual([arena.is_rivalled(span) for span in arena.spans()], [True, True, False, False])
        self.assertEqual([arena.is_halved(span) for span in arena.spans()], [True, False, False, False])
        self.assertEqual([arena.halves(span) for span in arena.spans()], [(left, right), None, None, None])
        self.assertEqual([arena.payer(span) for span in arena.spans()], ["ann", "bob", None, None])
        self.assertEqual([arena.halver(span) for span in arena.spans()], ["cat", None, None, None])
        self.assertEqual([arena.is_settled(span) for span in arena.spans()], [False] * 4)
        self.assertEqual([arena.stored(span) for span in arena.spans()], [0] * 4)
        self.assertEqual(arena.stakes(), 207)
        self.watched.accounts.move("cat", "dan", 7)
        other_left, other_right = self.watched.halve("dan", self.other, 14)
        self.assertEqual(arena.spans(), [self.one, self.other, left, right, other_left, other_right])
        self.assertEqual([arena.is_rivalled(span) for span in arena.spans()], [True, True, True, False, True, False])
        self.assertEqual(arena.halver(self.other), "dan")

    def test_the_list_of_spans_may_be_changed(self):
        self.arena.spans().append((0, 0, 0, 1, 1))
        self.arena.spans().clear()
        self.assertEqual(self.arena.spans(), [self.one, self.other])

    def test_copy(self):
        copied = self.arena.copy()
        self.assertIsInstance(copied, Arena)
        self.assertEqual(seen(copied), seen(self.arena))
        notary, accounts = self.watched.notary, self.watched.accounts
        left, right = self.watched.halve("ann", self.one, 13)
        self.assertEqual(copied.spans(), [self.one, self.other])
        self.assertEqual(copied.stakes(), 200)
        self.assertIs(copied.is_halved(self.one), False)
        before = seen(self.arena)
        # The copy goes a way of its own, with the same notary.
        size = notary.size()
        self.assertEqual(copied.apply("bob", halving(notary, self.other), 14, accounts, "purse"), "ok")
        self.assertEqual(copied.apply("bob", ("gather", self.one), 15, accounts, "purse"), "ok")
        self.assertEqual(notary.size(), size)
        self.assertEqual(seen(self.arena), before)
        self.assertEqual(copied.spans()[:2], [self.one, self.other])
        self.assertEqual(len(copied.spans()), 4)
        self.assertEqual((copied.stored(self.one), self.arena.stored(self.one)), (2, 0))

    def test_copy_at_each_stage(self):
        watched = Watched(self, level=1, needed=4)
        one = watched.claim("ann", (21, 22), 10)
        stages = []
        rows = [(("claim", seal_row(watched.notary, None, (23, 22))), 12), (halving(watched.notary, one), 12),
                (("gather", one), 13)]
        for deed, height in rows:
            watched.ok("bob", deed, height)
            stages.append((watched.arena.copy(), height))
        left, right = watched.arena.halves(one)
        for deed, height in ((("gather", left), 16), (("gather", right), 16), (("gather", one), 16),
                             (("close", one), 17), (("show", one, ()), 18), (("share",), 23)):
            watched.ok("bob", deed, height)
            stages.append((watched.arena.copy(), height))
        shows = [repr(seen(copied)) for copied, _ in stages]
        self.assertEqual(len(set(shows)), len(shows))
        # Each copy goes on as the arena itself did.
        deeds = rows + [(("gather", left), 16), (("gather", right), 16), (("gather", one), 16), (("close", one), 17),
                        (("show", one, ()), 18), (("share",), 23)]
        for at, (copied, _) in enumerate(stages):
            accounts = Accounts({"ann": 1000, "bob": 1000, "purse": 1000})
            for deed, height in deeds[at + 1:]:
                self.assertEqual(copied.apply("bob", deed, height, accounts, "purse"), "ok", deed)
            self.assertEqual(repr(seen(copied)), shows[-1])


if __name__ == "__main__":
    unittest.main()
