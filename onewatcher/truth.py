"""The truth about a run: the spans that are true for it, and the deeds with which they are defended."""

from onewatcher.deeds import halving_of
from onewatcher.histories import history_of, opening
from onewatcher.papers import make_paper
from onewatcher.seals import is_number
from onewatcher.spans import is_span, root_span, seal_halves


class Truth:
    """Knows all true spans of a run, and has all sealed that a checker may ask about them."""

    def __init__(self, notary, run):
        self._notary = notary
        self._run = run
        # The seals that papers need are there with the run; those of the halves are made here.
        history = history_of(notary, run.seals())
        rows = seal_halves(notary, root_span(run.question(), history))
        self._rows = list(reversed(rows))

    def run(self):
        """The run that the truth is about."""
        return self._run

    def question(self):
        """The question of the run."""
        return self._run.question()

    def root(self):
        """The true root span."""
        return self._rows[-1][0]

    def true_span(self, level, first):
        """The true span at a level and first step, or None if there is none."""
        if not is_number(level, len(self._rows) - 1) or not is_number(first, len(self._rows[0]) - 1):
            return None
        place = first >> level
        return self._rows[level][place] if place << level == first else None

    def is_true(self, span):
        """True if any value is a true span."""
        return is_span(span) and span == self.true_span(span[0], span[1])

    def halving(self, span):
        """The deed that halves a true span of a level above 0, otherwise None."""
        return halving_of(self._notary, span) if self.is_true(span) else None

    def paper(self, span):
        """The deed that shows the step of a true span of level 0, otherwise None."""
        if not self.is_true(span) or span[0] != 0:
            return None
        first = span[1]
        paper = make_paper(self._notary, self._run.program(), self._run.words(), self._run.state_at(first))
        return ("paper", span, self._run.seals()[first], paper)

    def showing(self, span):
        """The deed that shows the halving of a true span, otherwise None."""
        if not self.is_true(span):
            return None
        joins = [opening(self._notary, self._rows[level][span[1] >> level][4])
                 for level in range(span[0] + 1, len(self._rows))]
        return ("show", span, tuple(reversed(joins)))
