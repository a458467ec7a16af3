"""[3.6]: the one-step paper of a state; and that the checker accepts it."""

import unittest

from onewatcher.machine import NAMES, first_state, step
from onewatcher.papers import check_paper, make_paper
from onewatcher.seals import Notary
from onewatcher.states import Run, question, state_seal

TOP = 4294967295
CELLS = tuple(range(500, 564))
WORDS = (21, 22, 23)


def told_path(notary, leaves, index):
    """The path by the words of [1.5]; all nodes of the tree are sealed."""
    row = list(leaves)
    path = []
    while len(row) > 1:
        path.append(row[index ^ 1])
        row = [notary.seal(("pair", row[n], row[n + 1])) for n in range(0, len(row), 2)]
        index //= 2
    return tuple(path)


def told_word_path(notary, words, index):
    padded = tuple(words) + (0,) * (64 - len(words))
    return told_path(notary, [notary.seal(("word", word)) for word in padded], index)


def told_code_path(notary, program, place):
    codes = tuple(program) + ((),) * (64 - len(program))
    return told_path(notary, [notary.seal(("code",) + code) for code in codes], place)


def told_fields(notary, state):
    place, registers, memory, position, written, status = state
    row = [notary.seal(("word", word)) for word in memory]
    while len(row) > 1:
        row = [notary.seal(("pair", row[n], row[n + 1])) for n in range(0, len(row), 2)]
    chain = 0
    for word in written:
        chain = notary.seal(("wrote", chain, word))
    return (place,) + registers + (row[0], position, chain, status)


def state_with(place=0, registers=(11, 12, 13, 14), memory=CELLS, position=0, written=(), status=0):
    return (place, registers, memory, position, written, status)


def at_place(place, instruction, count=64):
    program = [("div", 0, 0, 0)] * count
    program[place] = instruction
    return tuple(program)


# Instructions that look at neither the memory nor the input, whatever the state.
PLAIN = (
    ("set", 1, 7), ("set", 0, TOP), ("copy", 2, 1), ("add", 0, 1, 2), ("sub", 0, 1, 2), ("mul", 3, 3, 3),
    ("div", 0, 1, 2), ("mod", 0, 1, 2), ("less", 0, 1, 2), ("same", 0, 1, 1), ("jump", 64), ("jump", 0),
    ("zero", 0, 5), ("left", 2), ("write", 3), ("stop",),
)


class MadeTest(unittest.TestCase):
    def check(self, program, words, state, index=None, position=None):
        """The paper is the one told, and it is accepted; the checker seals nothing and asks at most 24 times."""
        notary = Notary()
        paper = make_paper(notary, program, words, state)
        size = notary.size()
        after = step(program, words, state)
        self.assertNotEqual(notary.find(("state",) + told_fields(notary, after)), 0)
        self.assertNotEqual(notary.find(("state",) + told_fields(notary, state)), 0)
        place = state[0]
        code, code_path, word, word_path, given, given_path = (), (), 0, (), 0, ()
        if state[5] == 0 and place < len(program):
            code, code_path = program[place], told_code_path(notary, program, place)
        if index is not None:
            word, word_path = state[2][index], told_word_path(notary, state[2], index)
        if position is not None:
            given, given_path = words[position], told_word_path(notary, words, position)
        # Whatever a checker asks for had been sealed by make_paper.
        self.assertEqual(notary.size(), size)
        fields = told_fields(notary, state)
        self.assertEqual(paper, (fields, code, code_path, word, word_path, given, given_path))
        self.assertEqual(make_paper(notary, program, words, state), paper)
        asked = question(notary, program, words, first_state(), 3)
        before = state_seal(notary, state)
        size, finds = notary.size(), notary.finds()
        result = check_paper(notary, asked, before, paper)
        self.assertLessEqual(notary.finds(), finds + 24)
        self.assertEqual(notary.size(), size)
        self.assertNotEqual(result, 0)
        self.assertEqual(result, state_seal(notary, after))
        self.assertEqual(notary.parts_of(result), ("state",) + told_fields(notary, after))

    def test_every_instruction_is_looked_at(self):
        seen = set(code[0] for code in PLAIN) | set(("load", "store", "read"))
        self.assertEqual(seen, set(NAMES))

    def test_plain_instructions(self):
        for instruction in PLAIN:
            for place in (0, 1, 40, 63):
                self.check(at_place(place, instruction), WORDS, state_with(place))

    def test_plain_instructions_with_other_states(self):
        for instruction in PLAIN:
            for state in (state_with(2, (0, 0, 0, 0)), state_with(2, (TOP,) * 4, (0,) * 64, 3, (5, 6, 7)),
                          state_with(2, (1, 2, 3, 4), position=1, written=(0,) * 30)):
                self.check(at_place(2, instruction, 3), WORDS, state)
                self.check(at_place(2, instruction, 3), (1,) * 64, state)

    def test_division_by_zero(self):
        for name in ("div", "mod"):
            self.check(at_place(5, (name, 0, 1, 2)), (), state_with(5, (11, 12, 0, 14)))

    def test_load(self):
        for index in (0, 1, 2, 31, 32, 62, 63):
            self.check(at_place(7, ("load", 0, 2)), WORDS, state_with(7, (11, 12, index, 14)), index=index)
            self.check(at_place(7, ("load", 3, 3)), (), state_with(7, (11, 12, 13, index), (0,) * 64), index=index)
        for index in (64, 65, 127, TOP):
            self.check(at_place(7, ("load", 0, 2)), WORDS, state_with(7, (11, 12, index, 14)))

    def test_store(self):
        for index in (0, 1, 2, 31, 32, 62, 63):
            self.check(at_place(7, ("store", 0, 2)), WORDS, state_with(7, (11, 12, index, 14)), index=index)
            self.check(at_place(7, ("store", 3, 3)), (), state_with(7, (11, 12, 13, index)), index=index)
            # The word that is there already.
            self.check(at_place(7, ("store", 0, 2)), (), state_with(7, (500 + index, 12, index, 14)), index=index)
            self.check(at_place(7, ("store", 0, 2)), (), state_with(7, (0, 0, index, 0), (0,) * 64), index=index)
        for index in (64, 65, 127, TOP):
            self.check(at_place(7, ("store", 0, 2)), WORDS, state_with(7, (11, 12, index, 14)))
            self.check(at_place(7, ("store", 2, 0)), WORDS, state_with(7, (index, 12, 5, 14)))

    def test_the_index_is_in_the_last_operand(self):
        self.check(at_place(0, ("load", 1, 2)), (), state_with(0, (0, 70, 3, 0)), index=3)
        self.check(at_place(0, ("load", 2, 1)), (), state_with(0, (0, 70, 3, 0)))
        self.check(at_place(0, ("store", 1, 2)), (), state_with(0, (0, 70, 3, 0)), index=3)
        self.check(at_place(0, ("store", 2, 1)), (), state_with(0, (0, 70, 3, 0)))

    def test_read(self):
        for position in range(3):
            self.check(at_place(9, ("read", 2)), WORDS, state_with(9, position=position), position=position)
        self.check(at_place(9, ("read", 2)), WORDS, state_with(9, position=3))
        self.check(at_place(9, ("read", 2)), (), state_with(9))
        words = tuple(range(900, 964))
        for position in (0, 1, 31, 32, 63):
            self.check(at_place(9, ("read", 0)), words, state_with(9, position=position), position=position)
        self.check(at_place(9, ("read", 0)), words, state_with(9, position=64))
        self.check(at_place(9, ("read", 0)), words[:63], state_with(9, position=63))

    def test_left(self):
        for position in range(4):
            self.check(at_place(0, ("left", 2)), WORDS, state_with(0, position=position))
        self.check(at_place(0, ("left", 2)), (0,) * 64, state_with(0))

    def test_write(self):
        for written in ((), (14,), (1, 2, 3), (7,) * 100):
            self.check(at_place(0, ("write", 3)), (), state_with(0, written=written))

    def test_no_instruction_at_the_place(self):
        for count in (1, 2, 63):
            for place in (count, count + 1, 64):
                self.check((("write", 0),) * count, WORDS, state_with(min(place, 64)))
        self.check((("write", 0),) * 64, WORDS, state_with(64))

    def test_states_that_have_ended(self):
        for status in (1, 2):
            for instruction in PLAIN + (("load", 0, 1), ("store", 0, 1), ("read", 0)):
                self.check(at_place(3, instruction), WORDS, state_with(3, (1, 2, 3, 4), status=status))
            self.check((("stop",),), (), state_with(64, status=status))

    def test_papers_along_a_run(self):
        program = (("left", 0), ("zero", 0, 6), ("read", 1), ("store", 1, 0), ("write", 1), ("jump", 0),
                   ("load", 2, 3), ("write", 2), ("set", 3, 64), ("load", 2, 3))
        notary = Notary()
        words = (5, 6, 0)
        run = Run(notary, program, words, first_state(), 5)
        for n in range(32):
            paper = make_paper(notary, program, words, run.state_at(n))
            before = run.start() if n == 0 else run.seals()[n - 1]
            self.assertEqual(check_paper(notary, run.question(), before, paper), run.seals()[n])
            for other in (0, 7, 16, 31):
                if run.seals()[other] != before:
                    self.assertEqual(check_paper(notary, run.question(), run.seals()[other], paper), 0)

    def test_the_example_of_the_document(self):
        notary = Notary()
        program = (("set", 0, 9), ("store", 0, 1), ("stop",))
        run = Run(notary, program, (), first_state(), 2)
        paper = make_paper(notary, program, (), run.state_at(1))
        self.assertEqual(check_paper(notary, run.question(), run.seals()[0], paper), run.seals()[1])
        self.assertEqual(check_paper(notary, run.question(), run.seals()[1], paper), 0)


if __name__ == "__main__":
    unittest.main()
