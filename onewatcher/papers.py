"""One-step papers: what somebody must see to know the state behind one step."""

from onewatcher.machine import FAULTY, MAX_PROGRAM, MEMORY, RUNNING, is_instruction, step
from onewatcher.seals import MAX_PART, is_number, is_word
from onewatcher.states import TREE_HEIGHT, code_leaves, fields_of, state_seal, word_leaves
from onewatcher.trees import path_of, root_by

_FIELDS = 9
_PARTS = 7


def _looked_at(code, registers, position, length):
    """The memory's index and the input's position that a code looks at, each None if it does not look there."""
    name = code[0] if len(code) > 0 else ""
    if name in ("load", "store") and registers[code[2]] < MEMORY:
        return registers[code[2]], None
    if name == "read" and position < length:
        return None, position
    return None, None


def _shown_word(notary, words, index):
    """The word at the index and its path, or what stands for them if no word is looked at."""
    if index is None:
        return 0, ()
    return words[index], path_of(notary, word_leaves(notary, words), index)


def make_paper(notary, program, words, state):
    """The one-step paper of a state; the step's seals are there then."""
    place, registers, memory, position, _, status = state
    state_seal(notary, state)
    state_seal(notary, step(program, words, state))
    code = ()
    code_path = ()
    if status == RUNNING and place < len(program):
        code = program[place]
        code_path = path_of(notary, code_leaves(notary, program), place)
    index, at = _looked_at(code, registers, position, len(words))
    word, word_path = _shown_word(notary, memory, index)
    given, given_path = _shown_word(notary, words, at)
    return (fields_of(notary, state), code, code_path, word, word_path, given, given_path)


def _is_row(value, count):
    if not isinstance(value, tuple) or len(value) != count:
        return False
    return all(is_number(element, MAX_PART) for element in value)


def _is_path(value):
    return _is_row(value, TREE_HEIGHT) or value == ()


def _is_paper(value):
    """True if each part of any value is of the kind of that part of a paper."""
    if not isinstance(value, tuple) or len(value) != _PARTS:
        return False
    fields, code, code_path, word, word_path, given, given_path = value
    if not _is_row(fields, _FIELDS) or not is_word(word) or not is_word(given):
        return False
    if code != () and not is_instruction(code):
        return False
    return _is_path(code_path) and _is_path(word_path) and _is_path(given_path)


def _are_fields(fields, length):
    """True if the numbers of a state are in range, for an input of this length."""
    place, position, status = fields[0], fields[6], fields[8]
    if place > MAX_PROGRAM or position > length or status > FAULTY:
        return False
    return all(is_word(word) for word in fields[1:5])


def _leads(notary, index, parts, path):
    """The root that the leaf with these parts, the index and the path lead to, or 0."""
    leaf = notary.find(parts)
    return 0 if leaf == 0 else root_by(notary, index, leaf, path)


def _is_shown(notary, index, parts, path, root):
    """True if the path shows a leaf of a tree exactly if there is an index, and leads to the root then."""
    if index is None:
        return path == ()
    return root != 0 and path != () and _leads(notary, index, parts, path) == root


def _seal_behind(notary, paper, length, index):
    """The seal of the state behind the step of a paper that shows what is so, or 0."""
    fields, code, _, word, word_path, given, _ = paper
    place, root, position, chain, status = fields[0], fields[5], fields[6], fields[7], fields[8]
    # The step looks at nothing but the code, the word and the given word: what else is in
    # the program, the memory and the input makes no difference.
    program = (code,) * (place + 1) if code != () else ()
    state = (place, fields[1:5], (word,) * MEMORY, position, (), status)
    place, registers, memory, position, written, status = step(program, (given,) * length, state)
    if index is not None and memory[index] != word:
        root = _leads(notary, index, ("word", memory[index]), word_path)
        if root == 0:
            return 0
    if len(written) > 0:
        chain = notary.find(("wrote", chain, written[0]))
        if chain == 0:
            return 0
    return notary.find(("state", place) + registers + (root, position, chain, status))


def check_paper(notary, question, before, paper):
    """The seal of the state behind the step if the paper is accepted, otherwise 0; seals nothing."""
    program_root, program_length, input_root, input_length, _, _ = question
    if not _is_paper(paper) or not _are_fields(paper[0], input_length):
        return 0
    fields, code, code_path, word, word_path, given, given_path = paper
    if before == 0 or notary.find(("state",) + fields) != before:
        return 0
    place = fields[0] if fields[8] == RUNNING and fields[0] < program_length else None
    if (code == ()) != (place is None):
        return 0
    index, at = _looked_at(code, fields[1:5], fields[6], input_length)
    if (index is None and word != 0) or (at is None and given != 0):
        return 0
    if not _is_shown(notary, place, ("code",) + code, code_path, program_root):
        return 0
    if not _is_shown(notary, index, ("word", word), word_path, fields[5]):
        return 0
    if not _is_shown(notary, at, ("word", given), given_path, input_root):
        return 0
    return _seal_behind(notary, paper, input_length, index)
