"""The machine: its instructions, programs, inputs and states, and its steps."""

from onewatcher.seals import WORD, is_number, is_word

MEMORY = 64
MAX_PROGRAM = 64
MAX_INPUT = 64
NAMES = (
    "set", "copy", "add", "sub", "mul", "div", "mod", "less", "same",
    "load", "store", "jump", "zero", "read", "left", "write", "stop",
)

REGISTERS = 4
MAX_WRITTEN = 2048

RUNNING = 0
STOPPED = 1
FAULTY = 2

# The operands of each instruction: r is a register, w a word, p a place.
OPERANDS = {
    "set": "rw", "copy": "rr",
    "add": "rrr", "sub": "rrr", "mul": "rrr", "div": "rrr", "mod": "rrr", "less": "rrr", "same": "rrr",
    "load": "rr", "store": "rr", "jump": "p", "zero": "rp",
    "read": "r", "left": "r", "write": "r", "stop": "",
}


def _is_operand(kind, value):
    if kind == "r":
        return is_number(value, REGISTERS - 1)
    if kind == "p":
        return is_number(value, MAX_PROGRAM)
    return is_word(value)


def is_instruction(value):
    """True if any value is an instruction."""
    if not isinstance(value, tuple) or len(value) == 0:
        return False
    name = value[0]
    if not isinstance(name, str) or name not in OPERANDS:
        return False
    kinds = OPERANDS[name]
    if len(value) != len(kinds) + 1:
        return False
    return all(_is_operand(kind, operand) for kind, operand in zip(kinds, value[1:]))


def is_program(value):
    """True if any value is a program."""
    if not isinstance(value, tuple) or not 1 <= len(value) <= MAX_PROGRAM:
        return False
    return all(is_instruction(element) for element in value)


def _is_row_of_words(value, least, most):
    if not isinstance(value, tuple) or not least <= len(value) <= most:
        return False
    return all(is_word(element) for element in value)


def is_input(value):
    """True if any value is an input."""
    return _is_row_of_words(value, 0, MAX_INPUT)


def is_state(value):
    """True if any value is a state."""
    if not isinstance(value, tuple) or len(value) != 6:
        return False
    place, registers, memory, position, written, status = value
    return (
        is_number(place, MAX_PROGRAM)
        and _is_row_of_words(registers, REGISTERS, REGISTERS)
        and _is_row_of_words(memory, MEMORY, MEMORY)
        and is_number(position, MAX_INPUT)
        and _is_row_of_words(written, 0, MAX_WRITTEN)
        and is_number(status, FAULTY)
    )


def first_state():
    """The state in which a run begins."""
    return (0, (0,) * REGISTERS, (0,) * MEMORY, 0, (), RUNNING)


def _replaced(row, index, word):
    return row[:index] + (word,) + row[index + 1:]


def _ended(state, status):
    """The state with another status; nothing else changes, not even the place."""
    return state[:5] + (status,)


def _moved(state, place):
    return (place,) + state[1:]


def _filled(state, target, word):
    """The state at the next place, with the word in the register `target`."""
    place, registers, memory, position, written, status = state
    return (place + 1, _replaced(registers, target, word), memory, position, written, status)


def _do_set(instruction, words, state):
    _, target, word = instruction
    return _filled(state, target, word)


def _do_copy(instruction, words, state):
    _, target, source = instruction
    return _filled(state, target, state[1][source])


def _result(name, one, other):
    """The word that a calculation gives for two words, or None for a fault."""
    if name == "add":
        return (one + other) % WORD
    if name == "sub":
        return (one - other) % WORD
    if name == "mul":
        return (one * other) % WORD
    if name == "less":
        return 1 if one < other else 0
    if name == "same":
        return 1 if one == other else 0
    if other == 0:
        return None
    return one // other if name == "div" else one % other


def _do_calculate(instruction, words, state):
    name, target, one, other = instruction
    word = _result(name, state[1][one], state[1][other])
    if word is None:
        return _ended(state, FAULTY)
    return _filled(state, target, word)


def _do_load(instruction, words, state):
    _, target, source = instruction
    index = state[1][source]
    if index >= MEMORY:
        return _ended(state, FAULTY)
    return _filled(state, target, state[2][index])


def _do_store(instruction, words, state):
    _, source, pointer = instruction
    place, registers, memory, position, written, status = state
    index = registers[pointer]
    if index >= MEMORY:
        return _ended(state, FAULTY)
    return (place + 1, registers, _replaced(memory, index, registers[source]), position, written, status)


def _do_jump(instruction, words, state):
    return _moved(state, instruction[1])


def _do_zero(instruction, words, state):
    _, source, place = instruction
    return _moved(state, place if state[1][source] == 0 else state[0] + 1)


def _do_read(instruction, words, state):
    position = state[3]
    if position >= len(words):
        return _ended(state, FAULTY)
    place, registers, memory, _, written, status = _filled(state, instruction[1], words[position])
    return (place, registers, memory, position + 1, written, status)


def _do_left(instruction, words, state):
    return _filled(state, instruction[1], len(words) - state[3])


def _do_write(instruction, words, state):
    place, registers, memory, position, written, status = state
    return (place + 1, registers, memory, position, written + (registers[instruction[1]],), status)


def _do_stop(instruction, words, state):
    return _ended(state, STOPPED)


_ACTIONS = {
    "set": _do_set, "copy": _do_copy,
    "add": _do_calculate, "sub": _do_calculate, "mul": _do_calculate, "div": _do_calculate,
    "mod": _do_calculate, "less": _do_calculate, "same": _do_calculate,
    "load": _do_load, "store": _do_store, "jump": _do_jump, "zero": _do_zero,
    "read": _do_read, "left": _do_left, "write": _do_write, "stop": _do_stop,
}


def step(program, words, state):
    """The state behind one step of the program with these words as input."""
    if state[5] != RUNNING:
        return state
    place = state[0]
    if place >= len(program):
        return _ended(state, FAULTY)
    instruction = program[place]
    action = _ACTIONS[instruction[0]]
    return action(instruction, words, state)


def run(program, words, state, steps):
    """The state behind so many steps."""
    reached = state
    for _ in range(steps):
        reached = step(program, words, reached)
    return reached


def trace(program, words, state, steps):
    """The list of the states behind each of so many steps."""
    states = []
    reached = state
    for _ in range(steps):
        reached = step(program, words, reached)
        states.append(reached)
    return states
