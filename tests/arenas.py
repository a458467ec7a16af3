"""What the tests of the arena share: rows that are sealed for a question, deeds, and an arena that is watched."""

from onewatcher.accounts import Accounts
from onewatcher.arena import Arena
from onewatcher.histories import history_of, opening, part_at
from onewatcher.machine import first_state
from onewatcher.seals import Notary
from onewatcher.spans import halves_of
from onewatcher.states import question

NAMES = ("ann", "bob", "cat", "dan", "purse")
STOP = (("stop",),)


def replaced(row, at, value):
    return row[:at] + (value,) + row[at + 1:]


def nested(depth):
    value = ()
    for _ in range(depth):
        value = (value,)
    return value


def seal_row(notary, asked, row):
    """The history of a row, with all that halvings of it need."""
    history = history_of(notary, row)
    seal_behinds(notary, 0, history)
    return history


def seal_behinds(notary, before, history):
    parts = opening(notary, history)
    if parts is not None and parts[0] == "join":
        behind = notary.seal(("behind", before, parts[1]))
        seal_behinds(notary, before, parts[1])
        seal_behinds(notary, behind, parts[2])


def halving(notary, span):
    join = opening(notary, span[4])
    return ("halve", span, join, opening(notary, join[1]), opening(notary, join[2]))


def joins_to(notary, history, level, span):
    """The openings of the histories from a root span down to a span."""
    return tuple(opening(notary, part_at(notary, history, level, upper, span[1] >> upper << upper))
                 for upper in range(level, span[0], -1))


def part_of(notary, span, level, first):
    """The part of a span at a level and first step."""
    while span[0] > level:
        left, right = halves_of(notary, span)
        span = right if first >= right[1] else left
    return span


def seen(arena, heights=(40, 55)):
    """All that an arena shows."""
    rows = []
    for span in arena.spans():
        rows.append((span, arena.made(span), arena.stored(span), arena.halves(span), arena.payer(span),
                     arena.halver(span), arena.is_posted(span), arena.is_rivalled(span), arena.is_halved(span),
                     arena.is_settled(span), arena.is_shown(span),
                     tuple(arena.own(span, height) for height in heights),
                     tuple(arena.count(span, height) for height in heights)))
    return (rows, arena.confirmed(), arena.closed_at(), arena.is_shared(), arena.stakes(), arena.question(),
            arena.opened(), arena.needed(), arena.root_stake(), arena.half_stake(), arena.window())


class Watched:
    """An arena whose deeds are watched: what is not ok changes nothing, and nothing is sealed."""

    def __init__(self, test, level=2, needed=3, root_stake=100, half_stake=7, window=5, opened=10, amounts=None,
                 notary=None, asked=None):
        self.test = test
        self.notary = notary or Notary()
        self.level = level
        self.question = asked or question(self.notary, STOP, (), first_state(), level)
        self.arena = Arena(self.notary, self.question, opened, needed, root_stake, half_stake, window)
        self.accounts = Accounts(amounts or {"ann": 1000, "bob": 1000, "cat": 1000})
        self.total = self.accounts.total()

    def amounts(self):
        return tuple(self.accounts.amount(name) for name in NAMES)

    def do(self, sender, deed, height):
        """The answer to a deed."""
        test = self.test
        before = (seen(self.arena), self.amounts())
        size, finds = self.notary.size(), self.notary.finds()
        answer = self.arena.apply(sender, deed, height, self.accounts, "purse")
        test.assertEqual(self.notary.size(), size)
        test.assertLessEqual(self.notary.finds(), finds + 24)
        test.assertIsInstance(answer, str)
        after = (seen(self.arena), self.amounts())
        if answer == "ok":
            test.assertNotEqual(after, before)
        else:
            test.assertEqual(after, before)
        test.assertEqual(self.accounts.total(), self.total)
        return answer

    def ok(self, sender, deed, height):
        self.test.assertEqual(self.do(sender, deed, height), "ok", deed)

    def root(self, history):
        return (self.level, 0, 0, self.question[4], history)

    def claim(self, sender, row, height):
        """Claim a row; returns the root span."""
        history = seal_row(self.notary, self.question, row)
        self.ok(sender, ("claim", history), height)
        return self.root(history)

    def halve(self, sender, span, height):
        """Halve a span; returns its halves."""
        self.ok(sender, halving(self.notary, span), height)
        return self.arena.halves(span)

    def close(self, span, height):
        self.ok("dan", ("gather", span), height)
        self.ok("dan", ("close", span), height)
