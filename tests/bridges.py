"""What the tests of the bridge and of the watcher share: a bridge that is watched, and deeds for it."""

from arenas import seen
from onewatcher.accounts import Accounts
from onewatcher.assembly import read_program
from onewatcher.bridge import Bridge, input_of
from onewatcher.histories import history_of, opening
from onewatcher.machine import first_state
from onewatcher.seals import Notary
from onewatcher.states import Run, fields_of

# Writes the member and the amount of each entry, so that each one gets back what was put.
BACK = read_program("again: left r0\nzero r0 done\nread r1\nread r2\nread r3\nwrite r1\nwrite r2\njump again\n"
                    "done: stop")
# Member 1 gets as much as the note of the first entry says.
NOTE = read_program("set r1 1\nwrite r1\nread r2\nread r2\nread r2\nwrite r2\nstop")
# Writes one word, so that their number is odd.
ODD = read_program("read r1\nwrite r1\nstop")
# Stops with a fault.
FAULT = read_program("read r1\nwrite r1\nwrite r1\ndiv r1 r1 r3")

MEMBERS = ("ann", "bob", "cat")
NAMES = MEMBERS + ("dan", "eve", "vault", "purse1", "purse2", "purse3")

# Values of no form, among them such as Python takes for equal to integers.
ODDITIES = (None, True, False, -1, "", "1", (), (1,), ((),))


def plain_run(bridge, notary, number):
    """The run of a question of a bridge."""
    words = input_of(bridge.entries(number))
    return Run(notary, bridge.program(), words, first_state(), bridge.level())


def pay_deed(notary, run):
    """The deed that pays with a run."""
    last = run.state_at(len(run.seals()))
    return ("pay", opening(notary, history_of(notary, run.seals())), fields_of(notary, last), last[4])


def shown(bridge):
    """All that a bridge shows, its arenas too."""
    rows = []
    for number in range(-1, bridge.number() + 2):
        arena = bridge.arena(number)
        rows.append((bridge.entries(number), bridge.is_paid(number), None if arena is None else seen(arena)))
    return (rows, bridge.inbox(), bridge.rest(), bridge.number(), bridge.program(), bridge.members(), bridge.level(),
            bridge.window())


class WatchedBridge:
    """A bridge whose deeds are watched: what is not ok changes nothing, and the money is where it must be."""

    def __init__(self, test, program=BACK, level=4, needed=3, root_stake=100, half_stake=7, window=2, amounts=None,
                 members=MEMBERS):
        self.test = test
        self.notary = Notary()
        self.bridge = Bridge(self.notary, program, members, level, needed, root_stake, half_stake, window)
        self.accounts = Accounts(amounts or {"ann": 1000, "bob": 1000, "cat": 1000, "eve": 500})
        self.total = self.accounts.total()

    def amounts(self):
        return tuple(self.accounts.amount(name) for name in NAMES)

    def open_amount(self):
        """The amounts of the entries of the open question."""
        number = self.bridge.number()
        if number == 0 or self.bridge.is_paid(number):
            return 0
        return sum(entry[1] for entry in self.bridge.entries(number))

    def check_vault(self):
        waiting = sum(entry[1] for entry in self.bridge.inbox())
        due = self.bridge.rest() + waiting + self.open_amount()
        self.test.assertEqual(self.accounts.amount("vault"), due)

    def do(self, sender, deed, height=1):
        """The answer to a deed."""
        test = self.test
        before = (shown(self.bridge), self.amounts())
        answer = self.bridge.apply(sender, deed, height, self.accounts)
        test.assertIsInstance(answer, str)
        after = (shown(self.bridge), self.amounts())
        if answer == "ok":
            test.assertNotEqual(after, before)
        else:
            test.assertEqual(after, before, deed)
        test.assertEqual(self.accounts.total(), self.total)
        self.check_vault()
        return answer

    def ok(self, sender, deed, height=1):
        self.test.assertEqual(self.do(sender, deed, height), "ok", deed)

    def ask(self, *entries, height=1):
        """Put entries (name, amount, note), and ask; returns the plain run."""
        for name, amount, note in entries:
            self.ok(name, ("put", amount, note), height)
        self.ok("dan", ("ask",), height)
        return plain_run(self.bridge, self.notary, self.bridge.number())

    def confirm(self, history, height, name="eve"):
        """Claim a history and close the arena with it; the closing is at `height` + the needed count."""
        number = self.bridge.number()
        arena = self.bridge.arena(number)
        span = (self.bridge.level(), 0, 0, arena.question()[4], history)
        later = height + arena.needed()
        self.ok(name, ("arena", number, ("claim", history)), height)
        self.ok(name, ("arena", number, ("gather", span)), later)
        self.ok(name, ("arena", number, ("close", span)), later)

    def settle(self, run, height=1):
        """Confirm a run and pay with it; returns the deed that paid."""
        self.confirm(history_of(self.notary, run.seals()), height)
        deed = pay_deed(self.notary, run)
        self.ok("dan", deed, height + 10)
        return deed
