"""[7.1], [7.2] and the "put" of [7.3]: the making of a bridge, entries and the inbox."""

import unittest

from bridges import BACK, MEMBERS, ODDITIES, WatchedBridge
from onewatcher.bridge import Bridge, input_of
from onewatcher.errors import BadArena, BadState
from onewatcher.seals import WORD, Notary


def make(program=BACK, level=4, needed=3, root_stake=100, half_stake=7, window=2):
    return Bridge(Notary(), program, MEMBERS, level, needed, root_stake, half_stake, window)


class MakingTest(unittest.TestCase):
    def test_what_it_was_made_with(self):
        bridge = Bridge(Notary(), BACK, ("ann", "bob"), 7, 3, 100, 7, 9)
        self.assertEqual((bridge.program(), bridge.members(), bridge.level(), bridge.window()),
                         (BACK, ("ann", "bob"), 7, 9))
        self.assertEqual((bridge.inbox(), bridge.rest(), bridge.number()), ([], 0, 0))
        for number in (-1, 0, 1, 2):
            self.assertIsNone(bridge.entries(number))
            self.assertIsNone(bridge.arena(number))
            self.assertIs(bridge.is_paid(number), False)

    def test_programs(self):
        for program in ((), (("stop",),) * 65, (("stop", 0),), (("set", True, 1),), [("stop",)], None, True, "stop"):
            with self.assertRaises(BadState):
                make(program=program)
        self.assertEqual(make(program=(("stop",),) * 64).program(), (("stop",),) * 64)

    def test_levels(self):
        for level in (-1, 11, 12, True, False, None, "3", (3,)):
            with self.assertRaises(BadState):
                make(level=level)
        for level in (0, 1, 10):
            self.assertEqual(make(level=level).level(), level)

    def test_numbers_of_the_arenas(self):
        for name in ("needed", "root_stake", "half_stake", "window"):
            for number in (0, -1, 1000001, 2 ** 48):
                with self.assertRaises(BadArena):
                    make(**{name: number})
            for number in (1, 1000000):
                make(**{name: number})
        self.assertEqual(make(window=1000000).window(), 1000000)

    def test_programs_and_levels_come_first(self):
        with self.assertRaises(BadState):
            make(program=(), needed=0)
        with self.assertRaises(BadState):
            make(level=11, window=0)

    def test_the_numbers_go_to_the_arenas(self):
        watched = WatchedBridge(self, needed=11, root_stake=12, half_stake=13, window=14)
        watched.ask(("ann", 5, 0), height=15)
        arena = watched.bridge.arena(1)
        self.assertEqual((arena.needed(), arena.root_stake(), arena.half_stake(), arena.window(), arena.opened()),
                         (11, 12, 13, 14, 15))


class PutTest(unittest.TestCase):
    def setUp(self):
        self.watched = WatchedBridge(self)
        self.bridge = self.watched.bridge

    def put(self, sender, *parts):
        return self.watched.do(sender, ("put", *parts))

    def test_entries(self):
        self.assertEqual(self.put("bob", 30, 7), "ok")
        self.assertEqual(self.put("ann", 1, 0), "ok")
        self.assertEqual(self.put("bob", 30, 7), "ok")
        self.assertEqual(self.put("cat", 1000, WORD - 1), "ok")
        self.assertEqual(self.bridge.inbox(), [(1, 30, 7), (0, 1, 0), (1, 30, 7), (2, 1000, WORD - 1)])
        self.assertEqual([self.watched.accounts.amount(name) for name in ("ann", "bob", "cat", "vault")],
                         [999, 940, 0, 1061])
        self.assertEqual(self.bridge.number(), 0)

    def test_bounds_of_amounts_and_notes(self):
        self.watched = WatchedBridge(self, amounts={"ann": 2 ** 40})
        for amount, note in ((1, 0), (1, WORD - 1), (WORD - 1, 0), (WORD - 1, WORD - 1)):
            self.assertEqual(self.put("ann", amount, note), "ok")
        for amount in (0, WORD, WORD + 1) + ODDITIES:
            self.assertEqual(self.put("ann", amount, 5), "bad")
        for note in (WORD, 2 ** 48) + ODDITIES:
            self.assertEqual(self.put("ann", 5, note), "bad")
        self.assertEqual(len(self.watched.bridge.inbox()), 4)

    def test_forms(self):
        for deed in (("put",), ("put", 1), ("put", 1, 2, 3), ("put", (1, 2)), "put", ("Put", 1, 2), (("put",), 1, 2)):
            self.assertEqual(self.watched.do("ann", deed), "bad")

    def test_deeds_of_no_form(self):
        rows = [(value,) for value in ODDITIES] + list(ODDITIES)
        rows += [("pray", 1), ("claim", 5), ("share",), ("", 1, 2), (1, 2, 3), ("ask", 1), ("ask", None), (("ask",),)]
        rows += [("arena",), ("arena", 1), ("arena", 1, ("share",), 0), ("pay",), ("puts", 1, 2), (None, 1, 2)]
        value = ()
        for _ in range(12):
            rows.append(value)
            rows.append(("put", value, 1))
            value = (value,)
        for deed in rows:
            self.assertEqual(self.watched.do("ann", deed), "bad", deed)

    def test_strangers(self):
        for name in ("eve", "vault", "purse1", "an", "anna", "nobody"):
            self.assertEqual(self.put(name, 1, 0), "stranger")
        # Strangers come ahead of all but the form.
        self.assertEqual(self.put("nobody", 501, 0), "stranger")
        self.assertEqual(self.put("eve", 0, 0), "bad")

    def test_the_amount_of_the_sender(self):
        self.assertEqual(self.put("ann", 1001, 0), "poor")
        self.assertEqual(self.put("ann", 1000, 0), "ok")
        self.assertEqual(self.put("ann", 1, 0), "poor")
        self.assertEqual(self.put("bob", 1000, 0), "ok")

    def test_a_full_inbox(self):
        for n in range(20):
            self.assertEqual(self.put("ann", 1, n), "ok")
        self.assertEqual(self.put("ann", 981, 0), "poor")
        self.assertEqual(self.put("ann", 1, 20), "ok")
        self.assertEqual(self.put("ann", 1, 21), "full")
        self.assertEqual(self.put("bob", 2000, 21), "full")
        self.assertEqual(self.put("eve", 1, 21), "stranger")
        self.assertEqual(self.put("ann", 1, WORD), "bad")
        self.assertEqual(self.bridge.inbox(), [(0, 1, n) for n in range(21)])
        # The question takes all of them, and there is room again.
        run = self.watched.ask()
        self.assertEqual(len(run.words()), 63)
        self.assertEqual(self.put("bob", 3, 1), "ok")
        self.assertEqual(self.bridge.inbox(), [(1, 3, 1)])

    def test_sixteen_members(self):
        members = tuple("m{}".format(n) for n in range(16))
        self.watched = WatchedBridge(self, members=members, amounts={name: 5 for name in members})
        for n in (15, 0, 7):
            self.assertEqual(self.put(members[n], 5, n), "ok")
        self.assertEqual(self.watched.bridge.inbox(), [(15, 5, 15), (0, 5, 0), (7, 5, 7)])

    def test_the_list_is_a_copy(self):
        self.put("ann", 1, 0)
        self.bridge.inbox().append((1, 1, 1))
        self.bridge.inbox().clear()
        self.assertEqual(self.bridge.inbox(), [(0, 1, 0)])


class InputTest(unittest.TestCase):
    def test_input_of(self):
        self.assertEqual(input_of(()), ())
        self.assertEqual(input_of(((2, 30, 7),)), (2, 30, 7))
        self.assertEqual(input_of(((1, 5, 0), (0, WORD - 1, 9), (1, 5, 0))), (1, 5, 0, 0, WORD - 1, 9, 1, 5, 0))


if __name__ == "__main__":
    unittest.main()
