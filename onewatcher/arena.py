"""The arena: it settles one question by counting the blocks in which a claim stands without a rival."""

from onewatcher.deeds import is_deed
from onewatcher.errors import BadArena
from onewatcher.papers import check_paper
from onewatcher.seals import is_number
from onewatcher.spans import is_reached, root_span, split_span

_MOST = 1000000


def _check_numbers(opened, needed, root_stake, half_stake, window):
    if not is_number(opened, _MOST):
        raise BadArena("no such height")
    for number in (needed, root_stake, half_stake, window):
        if not is_number(number, _MOST) or number == 0:
            raise BadArena("no such count, stake or window")


def _copied(table):
    return {key: table[key] for key in table}


class Arena:
    """The posted spans of a question, their counts and stakes, and which root span is confirmed."""

    def __init__(self, notary, question, opened, needed, root_stake, half_stake, window):
        _check_numbers(opened, needed, root_stake, half_stake, window)
        self._notary = notary
        self._question = question
        self._opened = opened
        self._needed = needed
        self._root_stake = root_stake
        self._half_stake = half_stake
        self._window = window
        # The posted spans in the order of posting, with the heights; and from which height on they are rivalled.
        self._made = {}
        self._rivalled = {}
        # The first posted span of all that differ in the history alone, by what they share.
        self._foremost = {}
        self._halves = {}
        self._settled = {}
        self._stored = {}
        # Who paid for the root spans, and who for the halvings, by their spans.
        self._payers = {}
        self._halvers = {}
        self._shown = {}
        self._confirmed = None
        self._closed_at = None
        self._shared = False
        self._stakes = 0

    def apply(self, sender, deed, height, accounts, purse):
        """Handle a deed, which may be any value; returns the answer."""
        if not is_deed(deed):
            return "bad"
        word = deed[0]
        if word == "claim":
            return self._claim(deed, sender, height, accounts, purse)
        if word == "show":
            return self._show(deed, height)
        if word == "share":
            return self._share(height, accounts, purse)
        if self._closed_at is not None:
            return "closed"
        if deed[1] not in self._made:
            return "unknown"
        if word == "halve":
            return self._halve(deed, sender, height, accounts, purse)
        if word == "paper":
            return self._paper(deed)
        if word == "gather":
            return self._gather(deed, height)
        return self._close(deed, height)

    def _post(self, span, height):
        if span in self._made:
            return
        self._made[span] = height
        self._stored[span] = 0
        shared = span[:4]
        if shared not in self._foremost:
            self._foremost[shared] = span
            return
        self._rivalled[span] = height
        # All later ones had a rival when they were posted.
        if self._foremost[shared] not in self._rivalled:
            self._rivalled[self._foremost[shared]] = height

    def _claim(self, deed, sender, height, accounts, purse):
        span = root_span(self._question, deed[1])
        if self._closed_at is not None:
            return "closed"
        if span in self._made:
            return "there"
        if not accounts.move(sender, purse, self._root_stake):
            return "poor"
        self._stakes += self._root_stake
        self._payers[span] = sender
        self._post(span, height)
        return "ok"

    def _opened_halves(self, deed):
        """The halves that a halving shows, or None if something in it does not fit."""
        _, span, join, left_opening, right_opening = deed
        if join[0] != "join" or self._notary.find(join) != span[4]:
            return None
        if self._notary.find(left_opening) != join[1] or self._notary.find(right_opening) != join[2]:
            return None
        behind = self._notary.find(("behind", span[2], join[1]))
        if join[3] != right_opening[-1] or behind == 0:
            return None
        return split_span(span, join, behind, left_opening[-1])

    def _halve(self, deed, sender, height, accounts, purse):
        span = deed[1]
        if span[0] == 0:
            return "low"
        if span not in self._rivalled:
            return "alone"
        if span in self._halves:
            return "done"
        halves = self._opened_halves(deed)
        if halves is None:
            return "wrong"
        if not accounts.move(sender, purse, self._half_stake):
            return "poor"
        self._stakes += self._half_stake
        self._halvers[span] = sender
        self._halves[span] = halves
        left, right = halves
        self._post(left, height)
        self._post(right, height)
        return "ok"

    def _paper(self, deed):
        _, span, state, paper = deed
        if span[0] != 0:
            return "high"
        if span not in self._rivalled:
            return "alone"
        if span in self._settled:
            return "done"
        if self._notary.find(("step", state)) != span[4]:
            return "wrong"
        if check_paper(self._notary, self._question, span[3], paper) != state:
            return "wrong"
        self._settled[span] = True
        return "ok"

    def _gathered(self, span, height):
        """The own count of a span and what its settling, or the stored counts of its halves, add to it."""
        total = self.own(span, height)
        if span in self._settled:
            total += self._needed
        if span in self._halves:
            left, right = self._halves[span]
            total += min(self._stored[left], self._stored[right])
        return min(self._needed, total)

    def _gather(self, deed, height):
        span = deed[1]
        total = self._gathered(span, height)
        if total <= self._stored[span]:
            return "same"
        self._stored[span] = total
        return "ok"

    def _close(self, deed, height):
        span = deed[1]
        if span not in self._payers:
            return "low"
        if self._stored[span] < self._needed:
            return "early"
        self._confirmed = span
        self._closed_at = height
        return "ok"

    def _show(self, deed, height):
        _, span, joins = deed
        if self._closed_at is None:
            return "open"
        if height > self._closed_at + self._window:
            return "late"
        if span not in self._halves:
            return "unknown"
        if span in self._shown:
            return "done"
        if not is_reached(self._notary, self._confirmed, joins, span):
            return "wrong"
        self._shown[span] = True
        return "ok"

    def _payments(self):
        """The list of (name, stake) of all stakes that are paid back, that of the confirmed span first."""
        payments = [(self._payers[self._confirmed], self._root_stake)]
        for span in self._made:
            if span in self._shown:
                payments.append((self._halvers[span], self._half_stake))
        return payments

    def _share(self, height, accounts, purse):
        if self._closed_at is None:
            return "open"
        if height <= self._closed_at + self._window:
            return "early"
        if self._shared:
            return "done"
        payments = self._payments()
        backed = sum(stake for _, stake in payments)
        pot = self._stakes - backed
        rest = pot
        for name, stake in payments:
            part = pot * stake // backed
            rest -= part
            # A payment that cannot be made is passed over.
            accounts.move(purse, name, stake + part)
        accounts.move(purse, payments[0][0], rest)
        self._stakes = 0
        self._shared = True
        return "ok"

    def opened_for(self, question, height):
        """A new arena with the same numbers for a question; the chain of a ledger may be of any height."""
        other = Arena(self._notary, question, 0, self._needed, self._root_stake, self._half_stake, self._window)
        other._opened = height
        return other

    def copy(self):
        """An independent arena that is equal, with the same notary."""
        other = self.opened_for(self._question, self._opened)
        other._made = _copied(self._made)
        other._rivalled = _copied(self._rivalled)
        other._foremost = _copied(self._foremost)
        other._halves = _copied(self._halves)
        other._settled = _copied(self._settled)
        other._stored = _copied(self._stored)
        other._payers = _copied(self._payers)
        other._halvers = _copied(self._halvers)
        other._shown = _copied(self._shown)
        other._confirmed = self._confirmed
        other._closed_at = self._closed_at
        other._shared = self._shared
        other._stakes = self._stakes
        return other

    def question(self):
        """The question that the arena settles."""
        return self._question

    def opened(self):
        """The height at which the arena was opened."""
        return self._opened

    def needed(self):
        """The count that a root span needs to be confirmed."""
        return self._needed

    def root_stake(self):
        """What a claim costs."""
        return self._root_stake

    def half_stake(self):
        """What a halving costs."""
        return self._half_stake

    def window(self):
        """For how many blocks behind the closing halvings can be shown."""
        return self._window

    def spans(self):
        """The list of the posted spans, in the order of posting."""
        return list(self._made)

    def _waiting(self, done, is_step):
        return [span for span in self._made
                if span in self._rivalled and span not in done and (span[0] == 0) == is_step]

    def unhalved(self):
        """The list of the rivalled spans that are not halved yet, in the order of posting."""
        return self._waiting(self._halves, False)

    def unsettled(self):
        """The list of the rivalled spans of level 0 that are not settled yet, in the order of posting."""
        return self._waiting(self._settled, True)

    def is_posted(self, span):
        """True if the span is posted."""
        return span in self._made

    def is_rivalled(self, span):
        """True if the span is posted and has a rival."""
        return span in self._rivalled

    def is_halved(self, span):
        """True if the span is halved."""
        return span in self._halves

    def is_settled(self, span):
        """True if the span is settled."""
        return span in self._settled

    def is_shown(self, span):
        """True if the halving of the span is shown."""
        return span in self._shown

    def _check_posted(self, span):
        if span not in self._made:
            raise BadArena("the span is not posted")

    def made(self, span):
        """The height at which a span was posted."""
        self._check_posted(span)
        return self._made[span]

    def own(self, span, height):
        """The number of the blocks in which a span has stood without a rival."""
        self._check_posted(span)
        return self._rivalled.get(span, height) - self._made[span]

    def count(self, span, height):
        """The own count of a span, and what its settling or its halves add to it."""
        total = self.own(span, height)
        if span in self._settled:
            total += self._needed
        if span in self._halves:
            left, right = self._halves[span]
            total += min(self.count(left, height), self.count(right, height))
        return min(self._needed, total)

    def stored(self, span):
        """The stored count of a span."""
        self._check_posted(span)
        return self._stored[span]

    def halves(self, span):
        """The pair of the halves of a span, or None if it is not halved."""
        return self._halves.get(span, None)

    def payer(self, span):
        """The payer of a root span, or None if it is not posted."""
        return self._payers.get(span, None)

    def halver(self, span):
        """The payer of the halving of a span, or None if it is not halved."""
        return self._halvers.get(span, None)

    def confirmed(self):
        """The confirmed span, or None."""
        return self._confirmed

    def closed_at(self):
        """The height of the closing, or None."""
        return self._closed_at

    def is_shared(self):
        """True if the stakes were shared."""
        return self._shared

    def stakes(self):
        """The sum of the stakes that are in the purse."""
        return self._stakes
