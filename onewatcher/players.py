"""What players send who do not keep to the truth: the halvings, papers, gathers and closings that a script asks for."""

from onewatcher.lies import cut_of
from onewatcher.machine import step
from onewatcher.papers import make_paper
from onewatcher.states import state_seal


def cuts(notary, arena):
    """The halvings of all spans that can be halved, in the order of posting."""
    deeds = [cut_of(notary, arena, span) for span in arena.unhalved()]
    return [deed for deed in deeds if deed is not None]


def _paper_deed(notary, run, state, span):
    """The deed that settles a span with the step of a state, or None if the step leads elsewhere."""
    behind = state_seal(notary, step(run.program(), run.words(), state))
    if notary.find(("step", behind)) != span[4]:
        return None
    return ("paper", span, behind, make_paper(notary, run.program(), run.words(), state))


def papers(notary, arena, run, met):
    """The papers of all spans that can be settled from the states that were met, in the order of posting."""
    deeds = [_paper_deed(notary, run, met[span[3]], span) for span in arena.unsettled() if span[3] in met]
    return [deed for deed in deeds if deed is not None]


def gathers(arena, height):
    """The gathers of all spans, and the closings of the root spans whose count is enough."""
    spans = arena.spans()
    deeds = [("gather", span) for span in reversed(spans)]
    for span in spans:
        if arena.payer(span) is not None and arena.count(span, height) == arena.needed():
            deeds.append(("close", span))
    return deeds
