"""What the tests of the truth, the watcher and the reasons share: an arena for the question of a run."""

from arenas import Watched, replaced, seal_row
from onewatcher.assembly import read_program
from onewatcher.machine import first_state
from onewatcher.seals import Notary
from onewatcher.states import Run
from onewatcher.truth import Truth

# Reads, stores, loads and writes, again and again; stops when nothing is left to read.
BUSY = read_program("again: left r0\nzero r0 done\nread r1\nadd r2 r2 r1\nstore r2 r0\nload r3 r0\nwrite r3\n"
                    "jump again\ndone: write r2\nstop")
WORDS = (5, 6, 7)


class Stage(Watched):
    """A watched arena for the question of a run, with its truth."""

    def __init__(self, test, level=2, program=BUSY, words=WORDS, state=None, **more):
        self.notary = Notary()
        self.run = Run(self.notary, program, words, state or first_state(), level)
        self.truth = Truth(self.notary, self.run)
        Watched.__init__(self, test, level=level, notary=self.notary, asked=self.run.question(), **more)

    def true_claim(self, height, name="ann"):
        """Claim the true root span; returns it."""
        span = self.truth.root()
        self.ok(name, ("claim", span[4]), height)
        return span

    def rival_row(self, *places):
        """The row of the run with other numbers at these places."""
        row = self.run.seals()
        for at in places:
            row = replaced(row, at, self.notary.seal(("forged", at)))
        return row

    def rival_claim(self, height, *places, name="bob"):
        """Claim a row that is false at these places; returns the root span."""
        history = seal_row(self.notary, self.question, self.rival_row(*places))
        self.ok(name, ("claim", history), height)
        return self.root(history)

    def all_spans(self):
        """All true spans, from the root down."""
        return [self.truth.true_span(level, first)
                for level in reversed(range(self.level + 1)) for first in range(0, 1 << self.level, 1 << level)]

    def halve_true(self, height, name="ann"):
        """Halve all true spans that can be halved now, from the root down."""
        for span in self.all_spans():
            if span in self.arena.unhalved():
                self.ok(name, self.truth.halving(span), height)

    def settle_true(self, height, name="ann"):
        """Settle all true spans that can be settled now."""
        for span in self.all_spans():
            if span in self.arena.unsettled():
                self.ok(name, self.truth.paper(span), height)

    def gather_true(self, height, name="ann"):
        """Gather all true spans that are posted, from level 0 on; what does not grow is passed over."""
        for span in reversed(self.all_spans()):
            if self.arena.is_posted(span):
                self.do(name, ("gather", span), height)
