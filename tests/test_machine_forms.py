"""[2.1] to [2.3]: what is an instruction, a program, an input and a state."""

import unittest

from onewatcher.machine import (
    MAX_INPUT, MAX_PROGRAM, MEMORY, NAMES, first_state, is_input, is_instruction, is_program, is_state,
)

TOP = 4294967295

# The kinds of operands of each instruction, in the order of [2.1].
SHAPES = (
    ("set", "rw"), ("copy", "rr"),
    ("add", "rrr"), ("sub", "rrr"), ("mul", "rrr"),
    ("div", "rrr"), ("mod", "rrr"),
    ("less", "rrr"), ("same", "rrr"),
    ("load", "rr"), ("store", "rr"),
    ("jump", "p"), ("zero", "rp"),
    ("read", "r"), ("left", "r"),
    ("write", "r"), ("stop", ""),
)
MOST = {"r": 3, "w": TOP, "p": 64}

NO_NUMBERS = (True, False, None, "", "0", "1", "r1", (), (0,), (1,))


def least(name, kinds):
    return (name,) + (0,) * len(kinds)


def nested(depth):
    value = ()
    for _ in range(depth):
        value = (value,)
    return value


class ConstantsTest(unittest.TestCase):
    def test_constants(self):
        self.assertEqual((MEMORY, MAX_PROGRAM, MAX_INPUT), (64, 64, 64))
        self.assertIsInstance(NAMES, tuple)
        self.assertEqual(NAMES, tuple(name for name, _ in SHAPES))


class InstructionsTest(unittest.TestCase):
    def test_every_instruction(self):
        for name, kinds in SHAPES:
            self.assertIs(is_instruction(least(name, kinds)), True, name)
            self.assertIs(is_instruction((name,) + tuple(MOST[kind] for kind in kinds)), True, name)

    def test_every_operand_at_its_bounds(self):
        for name, kinds in SHAPES:
            for at, kind in enumerate(kinds):
                for value in (-1, 0, 1, 2, 3, 4, 63, 64, 65, TOP - 1, TOP, TOP + 1, 2 ** 48):
                    spoilt = list(least(name, kinds))
                    spoilt[at + 1] = value
                    self.assertIs(is_instruction(tuple(spoilt)), 0 <= value <= MOST[kind], spoilt)

    def test_every_operand_that_is_no_number(self):
        for name, kinds in SHAPES:
            for at in range(len(kinds)):
                for value in NO_NUMBERS:
                    spoilt = list(least(name, kinds))
                    spoilt[at + 1] = value
                    self.assertIs(is_instruction(tuple(spoilt)), False, spoilt)

    def test_every_other_number_of_operands(self):
        for name, kinds in SHAPES:
            for count in range(7):
                self.assertIs(is_instruction((name,) + (0,) * count), count == len(kinds), (name, count))

    def test_every_spoilt_name(self):
        for name, kinds in SHAPES:
            operands = (0,) * len(kinds)
            for word in (name.upper(), name + " ", " " + name, name + "s", name[:-1], (name,), 0, True, None):
                self.assertIs(is_instruction((word,) + operands), False, word)

    def test_other_values(self):
        for value in (0, 1, -1, True, False, None, "", "stop", (), ("",), ("nop",), (0,), (None,), (("stop",),)):
            self.assertIs(is_instruction(value), False, value)
        for depth in range(13):
            self.assertIs(is_instruction(nested(depth)), False, depth)


class ProgramsTest(unittest.TestCase):
    def test_lengths(self):
        for count in range(70):
            self.assertIs(is_program((("stop",),) * count), 1 <= count <= 64, count)

    def test_every_instruction_stands_in_a_program(self):
        self.assertIs(is_program(tuple(least(name, kinds) for name, kinds in SHAPES)), True)

    def test_one_bad_element(self):
        for bad in (("set", 4, 0), ("stop", 0), (), "stop", None, True, 0, (("stop",),)):
            for at in (0, 1, 63):
                program = [("stop",)] * 64
                program[at] = bad
                self.assertIs(is_program(tuple(program)), False, bad)
            self.assertIs(is_program((bad,)), False, bad)

    def test_other_values(self):
        for value in (0, 1, True, False, None, "", "stop", (), ("stop",), ("set", 0, 0), nested(12)):
            self.assertIs(is_program(value), False, value)


class InputsTest(unittest.TestCase):
    def test_lengths(self):
        for count in range(70):
            self.assertIs(is_input((TOP,) * count), count <= 64, count)

    def test_one_bad_element(self):
        for bad in (-1, TOP + 1, 2 ** 48) + NO_NUMBERS:
            for words in ((bad,), (bad, 0), (0, bad), (1,) * 63 + (bad,)):
                self.assertIs(is_input(words), False, words)

    def test_other_values(self):
        for value in (0, 1, True, False, None, "", "abc", ("",), ((),), nested(12)):
            self.assertIs(is_input(value), False, value)


class StatesTest(unittest.TestCase):
    def changed(self, at, value):
        state = list(first_state())
        state[at] = value
        return tuple(state)

    def test_first_state(self):
        self.assertEqual(first_state(), (0, (0, 0, 0, 0), (0,) * 64, 0, (), 0))
        self.assertIs(is_state(first_state()), True)

    def test_the_greatest_state(self):
        self.assertIs(is_state((64, (TOP,) * 4, (TOP,) * 64, 64, (TOP,) * 2048, 2)), True)

    def test_numbers_at_their_bounds(self):
        for at, most in ((0, 64), (3, 64), (5, 2)):
            for value in (-1, 0, 1, 2, 3, 4, 63, 64, 65, 2 ** 48):
                self.assertIs(is_state(self.changed(at, value)), 0 <= value <= most, (at, value))
            for value in NO_NUMBERS:
                self.assertIs(is_state(self.changed(at, value)), False, (at, value))

    def test_rows_at_the_bounds_of_their_lengths(self):
        for at, lengths in ((1, (4,)), (2, (64,)), (4, range(2049))):
            for count in (0, 1, 3, 4, 5, 63, 64, 65, 1024, 1025, 2047, 2048, 2049):
                self.assertIs(is_state(self.changed(at, (7,) * count)), count in lengths, (at, count))

    def test_rows_with_one_bad_word(self):
        for at, count in ((1, 4), (2, 64), (4, 1), (4, 2048)):
            for bad in (-1, TOP + 1) + NO_NUMBERS:
                for place in (0, count - 1):
                    row = [0] * count
                    row[place] = bad
                    self.assertIs(is_state(self.changed(at, tuple(row))), False, (at, bad))

    def test_rows_that_are_no_tuples(self):
        for at in (1, 2, 4):
            for value in (0, 4, True, None, "", "0000", "0" * 64):
                self.assertIs(is_state(self.changed(at, value)), False, (at, value))

    def test_other_values(self):
        state = first_state()
        for value in (0, True, False, None, "", "state", (), state[:5], state[1:], state + (0,), (state,), nested(12)):
            self.assertIs(is_state(value), False, value)


if __name__ == "__main__":
    unittest.main()
