"""[8.5]: what a watcher wants of a bridge."""

import unittest

from bridges import BACK, NOTE, WatchedBridge, pay_deed, plain_run, shown
from onewatcher.histories import history_of
from onewatcher.machine import first_state
from onewatcher.states import Run, question
from onewatcher.watcher import Watcher, plan


class WatcherTest(unittest.TestCase):
    def begin(self, **more):
        self.watched = WatchedBridge(self, **more)
        self.bridge = self.watched.bridge
        self.notary = self.watched.notary
        self.watcher = Watcher(self.notary, "wat")

    def deeds(self, height, bridge=None):
        """The deeds that are wanted; the bridge is as before, and a new watcher wants the same."""
        bridge = bridge or self.bridge
        before = shown(bridge)
        found = self.watcher.deeds(bridge, height)
        self.assertEqual(Watcher(self.notary, "wat").deeds(bridge, height), found)
        held = list(found)
        found.clear()
        self.assertEqual(self.watcher.deeds(bridge, height), held)
        self.assertEqual(shown(bridge), before)
        return held

    def planned(self, number, height, name="wat"):
        truth = self.watcher.truth(self.bridge, number)
        return [("arena", number, deed) for deed in plan(truth, self.bridge.arena(number), height, name)]

    def test_no_question(self):
        self.begin()
        self.assertEqual(self.deeds(0), [])
        self.watched.ok("ann", ("put", 5, 1))
        self.assertEqual(self.deeds(1), [])

    def test_one_question(self):
        self.begin(window=3)
        run = self.watched.ask(("ann", 50, 1), height=1)
        history = history_of(self.notary, run.seals())
        root = (4, 0, 0, run.start(), history)
        pay = pay_deed(self.notary, run)
        self.assertEqual(self.deeds(1), [("arena", 1, ("claim", history))])
        self.watched.ok("eve", ("arena", 1, ("claim", history)), 2)
        self.assertEqual(self.deeds(4), [])
        self.assertEqual(self.deeds(5), [("arena", 1, ("gather", root))])
        self.watched.ok("eve", ("arena", 1, ("gather", root)), 5)
        self.assertEqual(self.deeds(5), [("arena", 1, ("close", root))])
        self.watched.ok("eve", ("arena", 1, ("close", root)), 6)
        for height in (6, 7, 8):
            self.assertEqual(self.deeds(height), [pay])
        # Not paid yet, and the window is over: the pay deed stands behind those for the arena.
        self.assertEqual(self.deeds(9), [("arena", 1, ("share",)), pay])
        self.watched.ok("eve", pay, 10)
        self.assertEqual(self.deeds(10), [("arena", 1, ("share",))])
        self.watched.ok("eve", ("arena", 1, ("share",)), 11)
        self.assertEqual(self.deeds(11), [])

    def test_shared_and_not_paid(self):
        self.begin(window=3)
        run = self.watched.ask(("ann", 50, 1))
        self.watched.confirm(history_of(self.notary, run.seals()), 1)
        self.watched.ok("eve", ("arena", 1, ("share",)), 8)
        pay = pay_deed(self.notary, run)
        for height in (8, 9, 50):
            self.assertEqual(self.deeds(height), [pay])
        self.watched.ok("ann", pay, 50)
        self.assertEqual(self.deeds(50), [])

    def test_closed_with_another_span(self):
        self.begin()
        run = self.watched.ask(("ann", 50, 1))
        self.watched.confirm(history_of(self.notary, run.seals()) + 1, 1)
        for height in (4, 5, 6, 50):
            self.assertEqual(self.deeds(height), [])

    def test_the_first_question_goes_on_beside_the_second(self):
        self.begin()
        run = self.watched.ask(("ann", 50, 1))
        self.watched.confirm(history_of(self.notary, run.seals()), 1)
        self.watched.ok("ann", pay_deed(self.notary, run), 4)
        second = self.watched.ask(("bob", 20, 1), ("ann", 9, 9), height=5)
        claim = ("arena", 2, ("claim", history_of(self.notary, second.seals())))
        self.assertEqual(self.deeds(5), [claim])
        self.assertEqual(self.deeds(6), [("arena", 1, ("share",)), claim])
        self.watched.ok("wat", ("arena", 1, ("share",)), 7)
        self.assertEqual(self.deeds(7), [claim])
        self.watched.settle(second, 8)
        third = self.watched.ask(("cat", 20, 1), height=20)
        self.assertEqual(self.deeds(20), [("arena", 2, ("share",)),
                                          ("arena", 3, ("claim", history_of(self.notary, third.seals())))])

    def test_the_name_of_the_watcher(self):
        self.begin(amounts={"ann": 200, "wat": 500, "eve": 500}, window=9)
        run = self.watched.ask(("ann", 50, 1))
        truth = self.watcher.truth(self.bridge, 1)
        for name, history in (("ann", truth.root()[4]), ("eve", run.seals()[0])):
            self.watched.ok(name, ("arena", 1, ("claim", history)), 1)
        self.assertEqual(self.deeds(1), self.planned(1, 1))
        self.watched.ok("wat", self.deeds(1)[0], 2)
        for half in self.bridge.arena(1).halves(truth.root()):
            self.watched.ok("eve", ("arena", 1, ("gather", half)), 9)
        for deed in (("gather", truth.root()), ("close", truth.root())):
            self.watched.ok("eve", ("arena", 1, deed), 9)
        showing = ("arena", 1, truth.showing(truth.root()))
        self.assertEqual(self.deeds(9), [showing, pay_deed(self.notary, run)])
        other = Watcher(self.notary, "ann")
        self.assertEqual(other.deeds(self.bridge, 9), [pay_deed(self.notary, run)])

    def test_turned_back_to_another_question(self):
        self.begin()
        held = self.bridge.copy()
        accounts = self.watched.accounts.copy()
        first = self.watched.ask(("ann", 50, 1))
        self.deeds(1)
        for entry in (("put", 50, 2), ("put", 7, 7)):
            self.assertEqual(held.apply("ann", entry, 1, accounts), "ok")
        self.assertEqual(held.apply("ann", ("ask",), 1, accounts), "ok")
        second = plain_run(held, self.notary, 1)
        for bridge, run in ((held, second), (self.bridge, first), (held, second)):
            history = history_of(self.notary, run.seals())
            self.assertEqual(self.deeds(1, bridge), [("arena", 1, ("claim", history))])

    def test_bridges_of_other_programs_and_levels(self):
        self.begin()
        rows = [self.bridge]
        for program, level in ((NOTE, 4), (BACK, 3), (BACK, 0), (NOTE, 10)):
            watched = WatchedBridge(self, program=program, level=level)
            # The bridge takes the notary of this test's watcher.
            watched.bridge = type(watched.bridge)(self.notary, program, ("ann",), level, 3, 100, 7, 2)
            rows.append(watched.bridge)
            watched.ok("ann", ("put", 50, 1))
            watched.ok("ann", ("ask",))
        self.watched.ask(("ann", 50, 1))
        for bridge in rows + rows[::-1]:
            run = plain_run(bridge, self.notary, 1)
            history = history_of(self.notary, run.seals())
            self.assertEqual(self.deeds(1, bridge), [("arena", 1, ("claim", history))])

    def test_truths(self):
        self.begin()
        for k in (-1, 0, 1, 2):
            self.assertIsNone(self.watcher.truth(self.bridge, k))
        self.watched.ask(("bob", 50, 1), ("ann", 3, 4))
        for k in (-1, 0, 2, 2 ** 48):
            self.assertIsNone(self.watcher.truth(self.bridge, k))
        truth = self.watcher.truth(self.bridge, 1)
        words = (1, 50, 1, 0, 3, 4)
        self.assertEqual(truth.question(), question(self.notary, BACK, words, first_state(), 4))
        run = Run(self.notary, BACK, words, first_state(), 4)
        self.assertEqual(truth.root()[4], history_of(self.notary, run.seals()))
        self.assertEqual(self.watcher.truth(self.bridge, 1).root(), truth.root())

    def test_other_statuses_and_odd_words(self):
        # The pay deed has the last state of the run, whatever it is.
        for level in (0, 1, 3):
            self.begin(level=level)
            run = self.watched.ask(("ann", 50, 1))
            self.watched.confirm(history_of(self.notary, run.seals()), 1)
            pay = pay_deed(self.notary, run)
            self.assertEqual(self.deeds(5), [pay])
            self.watched.ok("wat", pay, 5)


if __name__ == "__main__":
    unittest.main()
