"""States, programs and inputs as seals; questions and runs."""

from onewatcher.errors import BadState
from onewatcher.histories import MAX_LEVEL
from onewatcher.machine import MAX_INPUT, MAX_PROGRAM, MEMORY, is_input, is_program, is_state, trace
from onewatcher.seals import is_number
from onewatcher.trees import WordTree, root_of

# The height of the trees of memories, programs and inputs, which have 64 leaves.
TREE_HEIGHT = 6


def word_leaves(notary, words):
    """The leaves of the tree of height 6 with these words, and 0 behind them."""
    padded = words + (0,) * (MAX_INPUT - len(words))
    return tuple(notary.seal(("word", word)) for word in padded)


def code_leaves(notary, program):
    """The leaves of the tree of the codes of the places 0 to 63."""
    codes = program + ((),) * (MAX_PROGRAM - len(program))
    return tuple(notary.seal(("code",) + code) for code in codes)


def memory_root(notary, memory):
    """The root of the tree of the words of a memory."""
    return root_of(notary, word_leaves(notary, memory))


def input_root(notary, words):
    """The root of the tree of the words of an input."""
    return root_of(notary, word_leaves(notary, words))


def program_root(notary, program):
    """The root of the tree of the codes of a program."""
    return root_of(notary, code_leaves(notary, program))


def _longer_chain(notary, chain, words):
    reached = chain
    for word in words:
        reached = notary.seal(("wrote", reached, word))
    return reached


def written_chain(notary, words):
    """The written chain of a tuple of words; 0 if it is empty."""
    return _longer_chain(notary, 0, words)


def _fields(state, root, chain):
    place, registers, _, position, _, status = state
    return (place,) + registers + (root, position, chain, status)


def fields_of(notary, state):
    """The nine fields of a state."""
    return _fields(state, memory_root(notary, state[2]), written_chain(notary, state[4]))


def state_seal(notary, state):
    """The seal of a state."""
    return notary.seal(("state",) + fields_of(notary, state))


def state_seals(notary, states):
    """The tuple of the seals of states, each of which has written what the one ahead has, and perhaps more."""
    # Tree and chain are brought up to date from state to state: sealing each anew takes far longer.
    tree = WordTree(notary, TREE_HEIGHT)
    memory = (0,) * MEMORY
    length = 0
    chain = 0
    seals = []
    for state in states:
        for index in range(MEMORY):
            if state[2][index] != memory[index]:
                tree.set_word(index, state[2][index])
        memory = state[2]
        chain = _longer_chain(notary, chain, state[4][length:])
        length = len(state[4])
        seals.append(notary.seal(("state",) + _fields(state, tree.root(), chain)))
    return tuple(seals)


def _check_question(program, words, state, level):
    if not is_program(program) or not is_input(words) or not is_state(state):
        raise BadState("not a program, an input and a state")
    if not is_number(level, MAX_LEVEL):
        raise BadState("not a level")
    if state[3] > len(words):
        raise BadState("the state has read more than the input has")


def question(notary, program, words, state, level):
    """The question of 2 ** level steps of a program from a state."""
    _check_question(program, words, state, level)
    start = state_seal(notary, state)
    return (program_root(notary, program), len(program), input_root(notary, words), len(words), start, level)


class Run:
    """A run of 2 ** level steps, with the seals of its states."""

    def __init__(self, notary, program, words, state, level):
        self._question = question(notary, program, words, state, level)
        self._program = program
        self._words = words
        self._states = [state] + trace(program, words, state, 1 << level)
        self._seals = state_seals(notary, self._states)

    def question(self):
        """The question that the run answers."""
        return self._question

    def seals(self):
        """The tuple of the seals of the states behind each step."""
        return self._seals[1:]

    def start(self):
        """The seal of the state in which the run begins."""
        return self._seals[0]

    def program(self):
        """The program of the run."""
        return self._program

    def words(self):
        """The input of the run."""
        return self._words

    def state_at(self, n):
        """The state behind n steps."""
        if not is_number(n, len(self._states) - 1):
            raise BadState("the run has no such state")
        return self._states[n]
