"""Programs as texts: one instruction a line, with labels and comments."""

from onewatcher.errors import BadText
from onewatcher.machine import MAX_PROGRAM, OPERANDS
from onewatcher.seals import WORD
from onewatcher.texts import is_name, number_in, words_of

_REGISTERS = ("r0", "r1", "r2", "r3")


def _is_label(text):
    return is_name(text) and text not in _REGISTERS and text not in OPERANDS


def _read_operand(kind, word):
    """The number that a word of a text stands for, the word itself if it may be a label, or None."""
    if kind == "r":
        return _REGISTERS.index(word) if word in _REGISTERS else None
    if kind == "w":
        return number_in(word, WORD - 1)
    if _is_label(word):
        return word
    return number_in(word, MAX_PROGRAM)


def _read_operands(words):
    """The list of the operands of an instruction, with labels as they stand, or None for a fault."""
    name = words[0]
    if name not in OPERANDS or len(words) != len(OPERANDS[name]) + 1:
        return None
    operands = [_read_operand(kind, word) for kind, word in zip(OPERANDS[name], words[1:])]
    return None if None in operands else operands


def _cut(line):
    """The label of a line, or None if it has no colon, and what stands behind the colon."""
    code, _, _ = line.partition(";")
    # A second colon stays in what is behind, where no word with a colon is right.
    label, colon, behind = code.partition(":")
    if colon == "":
        return None, code
    return label.strip(" "), behind


def _read_lines(lines):
    """The places of the labels, and a list of (line number, name, operands)."""
    places = {}
    rows = []
    for number, line in enumerate(lines, start=1):
        label, code = _cut(line)
        if label is not None:
            if not _is_label(label) or label in places:
                raise BadText(number)
            places[label] = len(rows)
        words = words_of(code)
        if len(words) > 0:
            operands = _read_operands(words)
            if operands is None:
                raise BadText(number)
            rows.append((number, words[0], operands))
    return places, rows


def read_program(text):
    """The program of a text."""
    places, rows = _read_lines(text.split("\n"))
    program = []
    for number, name, operands in rows:
        if not all(operand in places for operand in operands if isinstance(operand, str)):
            raise BadText(number)
        numbers = [places[operand] if isinstance(operand, str) else operand for operand in operands]
        program.append((name, *numbers))
    # Only behind all lines: a fault of a line comes first, wherever it stands.
    if not 1 <= len(program) <= MAX_PROGRAM:
        raise BadText(0)
    return tuple(program)


def _print_operand(kind, operand):
    return _REGISTERS[operand] if kind == "r" else str(operand)


def _print_instruction(instruction):
    name = instruction[0]
    operands = [_print_operand(kind, operand) for kind, operand in zip(OPERANDS[name], instruction[1:])]
    return " ".join([name] + operands)


def print_program(program):
    """The text of a program, without labels."""
    return "\n".join(_print_instruction(instruction) for instruction in program)
