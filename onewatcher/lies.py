"""Lies: false runs, forged rows and the halvings of others, as any player may make them."""

from onewatcher.deeds import halving_of
from onewatcher.histories import history_of
from onewatcher.machine import trace
from onewatcher.spans import root_span, seal_halves


def lied_states(program, words, states, at, spot, word):
    """The states of a run in which the register `spot` holds another word behind the step number `at`."""
    place, registers, memory, position, written, status = states[at]
    false_registers = registers[:spot] + (word,) + registers[spot + 1:]
    false = (place, false_registers, memory, position, written, status)
    return states[:at] + (false,) + tuple(trace(program, words, false, len(states) - at - 1))


def forged_row(row, at, seal):
    """The row with this integer at the place."""
    return row[:at] + (seal,) + row[at + 1:]


def seal_row(notary, question, row):
    """Seal a row for a question, with all that halvings of it need; returns its history."""
    history = history_of(notary, row)
    seal_halves(notary, root_span(question, history))
    return history


def cut_of(notary, arena, span):
    """The deed that halves a span, or None if its history or one of the parts does not open as its level asks."""
    return halving_of(notary, span)
