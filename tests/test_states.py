"""[3.1] to [3.5]: states, programs and inputs as seals; questions and runs."""

import unittest

from onewatcher.errors import BadState
from onewatcher.machine import first_state, step, trace
from onewatcher.seals import Notary
from onewatcher.states import (
    Run, fields_of, input_root, memory_root, program_root, question, state_seal, written_chain,
)

TOP = 4294967295
STOP = (("stop",),)

# Writes, stores and reads what comes, and begins anew.
BUSY = (
    ("left", 0), ("zero", 0, 4), ("read", 1), ("add", 3, 3, 1),
    ("store", 3, 2), ("write", 3), ("set", 0, 1), ("add", 2, 2, 0), ("add", 3, 3, 2),
    ("set", 0, 63), ("less", 1, 2, 0), ("zero", 1, 13), ("jump", 0), ("set", 2, 0), ("jump", 0),
)


def told_root(notary, leaves):
    """The root by the words of [1.4], from seals that the test makes part by part."""
    row = list(leaves)
    while len(row) > 1:
        row = [notary.seal(("pair", row[n], row[n + 1])) for n in range(0, len(row), 2)]
    return row[0]


def told_word_root(notary, words):
    return told_root(notary, [notary.seal(("word", word)) for word in words])


def told_chain(notary, words):
    if not words:
        return 0
    return notary.seal(("wrote", told_chain(notary, words[:-1]), words[-1]))


def told_fields(notary, state):
    place, registers, memory, position, written, status = state
    root = told_word_root(notary, memory)
    return (place, registers[0], registers[1], registers[2], registers[3], root, position,
            told_chain(notary, written), status)


def told_seal(notary, state):
    return notary.seal(("state",) + told_fields(notary, state))


def state_with(place=0, registers=(0, 0, 0, 0), memory=(0,) * 64, position=0, written=(), status=0):
    return (place, registers, memory, position, written, status)


def replaced(row, at, value):
    return row[:at] + (value,) + row[at + 1:]


STATES = (
    first_state(),
    state_with(5, (1, 2, 3, 4), tuple(range(64)), 6, (7, 8), 1),
    state_with(64, (TOP,) * 4, (TOP,) * 64, 64, (TOP,) * 20, 2),
    state_with(1, (0, 0, 0, 9), (0,) * 63 + (5,), 0, (0,), 0),
)


class RootsTest(unittest.TestCase):
    def check(self, make, value, told):
        """What the program seals is what the test seals, whoever comes first; no part of it is missing."""
        notary = Notary()
        found = make(notary, value)
        size = notary.size()
        self.assertEqual(told(notary, value), found)
        self.assertEqual(notary.size(), size)
        notary = Notary()
        first = told(notary, value)
        self.assertEqual(make(notary, value), first)

    def test_memory_root(self):
        rows = [(0,) * 64, tuple(range(64)), (TOP,) * 64, tuple(range(TOP, TOP - 64, -1))]
        rows += [replaced((0,) * 64, at, 9) for at in (0, 1, 31, 32, 62, 63)]
        for memory in rows:
            self.check(memory_root, memory, told_word_root)
        notary = Notary()
        self.assertEqual(len(set(memory_root(notary, memory) for memory in rows)), len(rows))

    def test_written_chain(self):
        self.assertEqual(written_chain(Notary(), ()), 0)
        notary = Notary()
        one = written_chain(notary, (7,))
        self.assertEqual(notary.parts_of(one), ("wrote", 0, 7))
        two = written_chain(notary, (7, 0))
        self.assertEqual(notary.parts_of(two), ("wrote", one, 0))
        for words in ((), (0,), (0, 0), (1, 2, 3), (3, 2, 1), (TOP,) * 40, tuple(range(300))):
            self.check(written_chain, words, told_chain)

    def test_a_long_chain(self):
        notary = Notary()
        words = tuple(n % 11 for n in range(2048))
        chain = 0
        for word in words:
            chain = notary.seal(("wrote", chain, word))
        self.assertEqual(written_chain(notary, words), chain)

    def test_program_root(self):
        def told(notary, program):
            codes = list(program) + [()] * (64 - len(program))
            return told_root(notary, [notary.seal(("code",) + code) for code in codes])

        programs = [STOP, (("set", 0, 0),), (("set", 0, 0), ("stop",)), BUSY, (("jump", 64),) * 63,
                    (("jump", 64),) * 64, (("set", 3, TOP), ("add", 0, 1, 2), ("copy", 2, 1)) * 21]
        for program in programs:
            self.check(program_root, program, told)
        notary = Notary()
        self.assertEqual(len(set(program_root(notary, program) for program in programs)), len(programs))

    def test_the_empty_code_behind_a_program(self):
        notary = Notary()
        program_root(notary, (("stop",),) * 64)
        self.assertEqual(notary.find(("code",)), 0)
        program_root(notary, (("stop",),) * 63)
        self.assertNotEqual(notary.find(("code",)), 0)

    def test_input_root(self):
        def told(notary, words):
            return told_word_root(notary, tuple(words) + (0,) * (64 - len(words)))

        rows = [(), (5,), (5, 6), (0, 5), tuple(range(1, 64)), tuple(range(1, 65)), (TOP,) * 64]
        for words in rows:
            self.check(input_root, words, told)
        notary = Notary()
        self.assertEqual(len(set(input_root(notary, words) for words in rows)), len(rows))
        # Zeros at the end make no difference: the length stands beside the root.
        self.assertEqual(input_root(notary, (5, 0, 0)), input_root(notary, (5,)))


class StateSealsTest(unittest.TestCase):
    def test_fields(self):
        for state in STATES:
            notary = Notary()
            fields = fields_of(notary, state)
            self.assertIsInstance(fields, tuple)
            self.assertEqual(len(fields), 9)
            self.assertEqual(fields, told_fields(notary, state))
        notary = Notary()
        told = told_fields(notary, STATES[1])
        self.assertEqual(fields_of(notary, STATES[1]), told)
        self.assertEqual(told[:5] + (told[6], told[8]), (5, 1, 2, 3, 4, 6, 1))

    def test_state_seal(self):
        for state in STATES:
            notary = Notary()
            seal = state_seal(notary, state)
            self.assertEqual(seal, told_seal(notary, state))
            self.assertEqual(state_seal(notary, state), seal)
            notary = Notary()
            seal = told_seal(notary, state)
            self.assertEqual(state_seal(notary, state), seal)

    def test_states_that_differ_in_one_field(self):
        for state in STATES:
            place, registers, memory, position, written, status = state
            others = [state]
            others += [(other,) + state[1:] for other in range(65) if other != place]
            for at in range(4):
                others.append((place, replaced(registers, at, 12345)) + state[2:])
            for at in range(64):
                others.append((place, registers, replaced(memory, at, 12345)) + state[3:])
            others += [state[:3] + (other,) + state[4:] for other in range(65) if other != position]
            for other in (written + (0,), written + (1,), written + (0, 0), (12345,) + written):
                others.append(state[:4] + (other, status))
            others += [state[:5] + (other,) for other in range(3) if other != status]
            notary = Notary()
            self.assertEqual(len(set(state_seal(notary, other) for other in others)), len(others))


class QuestionTest(unittest.TestCase):
    def test_each_part(self):
        for program, words, state, level in ((STOP, (), first_state(), 0), (BUSY, (5, 6, 0), STATES[3], 10),
                                             (BUSY * 4, (1,) * 64, STATES[2], 3)):
            notary = Notary()
            found = question(notary, program, words, state, level)
            self.assertEqual(found, (program_root(notary, program), len(program), input_root(notary, words),
                                     len(words), told_seal(notary, state), level))
            self.assertEqual(Run(notary, program, words, state, level).question(), found)

    def test_every_level(self):
        notary = Notary()
        for level in range(11):
            self.assertEqual(question(notary, STOP, (), first_state(), level)[5], level)

    def check_bad(self, program, words, state, level):
        for make in (question, Run):
            notary = Notary()
            with self.assertRaises(BadState):
                make(notary, program, words, state, level)
            self.assertEqual(notary.size(), 0)

    def test_bad_levels(self):
        for level in (-1, 11, 12, 2 ** 48, True, False):
            self.check_bad(STOP, (), first_state(), level)

    def test_bad_programs(self):
        for program in ((), (("stop",),) * 65, (("nop",),), (("set", 4, 0),), ("stop",), (("stop",), ("set", 0)),
                        (("set", 0, True),), (("stop",), ()), "stop", None, 5, True):
            self.check_bad(program, (), first_state(), 0)

    def test_bad_inputs(self):
        for words in ((0,) * 65, (-1,), (TOP + 1,), (True,), ("1",), (0, None), 5, None, "", True):
            self.check_bad(STOP, words, first_state(), 0)

    def test_bad_states(self):
        for state in ((), first_state()[:5], first_state() + (0,), state_with(place=65), state_with(place=-1),
                      state_with(registers=(0,) * 3), state_with(registers=(0, 0, 0, TOP + 1)),
                      state_with(memory=(0,) * 63), state_with(memory=(0,) * 65), state_with(written=(0,) * 2049),
                      state_with(status=3), state_with(status=True), state_with(position=65), state_with(position=-1),
                      None, 5, "state", True):
            self.check_bad(STOP, (0,) * 64, state, 0)

    def test_position_and_length_of_the_input(self):
        for count in (0, 1, 5, 63, 64):
            for position in range(65):
                words = (9,) * count
                if position > count:
                    self.check_bad(STOP, words, state_with(position=position), 0)
                else:
                    notary = Notary()
                    self.assertEqual(question(notary, STOP, words, state_with(position=position), 0)[3], count)
                    self.assertEqual(Run(notary, STOP, words, state_with(position=position), 0).words(), words)


class RunTest(unittest.TestCase):
    def check(self, program, words, state, level, told=True):
        notary = Notary()
        run = Run(notary, program, words, state, level)
        count = 2 ** level
        states = trace(program, words, state, count)
        self.assertEqual([run.state_at(n) for n in range(count + 1)], [state] + states)
        self.assertEqual(run.program(), program)
        self.assertEqual(run.words(), words)
        seals = run.seals()
        self.assertIsInstance(seals, tuple)
        self.assertEqual(len(seals), count)
        size = notary.size()
        places = range(count) if told else (0, 1, count // 2, count - 2, count - 1)
        for at in places:
            self.assertEqual(seals[at], told_seal(notary, states[at]), at)
        self.assertEqual(run.start(), told_seal(notary, state))
        # All that the states consist of had been sealed.
        self.assertEqual(notary.size(), size)
        self.assertEqual(run.question(), question(notary, program, words, state, level))
        self.assertEqual(run.question()[4], run.start())
        for n in (-1, -count, count + 1, count + 2, 2 ** 48, True):
            with self.assertRaises(BadState):
                run.state_at(n)

    def test_every_level(self):
        for level in range(11):
            self.check(BUSY, (5, 6, TOP, 8), first_state(), level, told=level < 7)

    def test_a_run_that_stops_and_one_with_a_fault(self):
        self.check(STOP, (), first_state(), 3)
        self.check((("set", 0, 64), ("store", 1, 0)), (), first_state(), 3)
        self.check((("set", 0, 64),), (), first_state(), 3)

    def test_from_other_states(self):
        for state in STATES:
            self.check(BUSY, (3,) * 64, state, 4)
        start = state_with(4, (9, 8, 7, 6), tuple(range(100, 164)), 2, tuple(range(50)))
        self.check(BUSY, (5, 6, 7), start, 6)

    def test_memory_that_comes_back(self):
        program = (("set", 0, 5), ("store", 0, 1), ("store", 2, 1), ("write", 0), ("jump", 1))
        self.check(program, (), first_state(), 5)
        self.check(program, (), state_with(1, (5, 63, 0, 0), (7,) * 64), 5)

    def test_a_run_that_writes_at_each_step(self):
        notary = Notary()
        program = (("write", 0), ("write", 1)) * 32
        run = Run(notary, program, (), state_with(0, (1, 2, 3, 4), written=(9,) * 1000), 6)
        last = run.state_at(64)
        self.assertEqual(last[4], (9,) * 1000 + (1, 2) * 32)
        self.assertEqual(run.seals()[63], state_seal(notary, last))

    def test_the_longest_run(self):
        notary = Notary()
        program = (("write", 0), ("store", 1, 0), ("add", 1, 1, 2), ("jump", 0))
        run = Run(notary, program, (), state_with(0, (3, 0, 7, 0)), 10)
        state = run.state_at(0)
        for n in range(1024):
            state = step(program, (), state)
            self.assertEqual(run.state_at(n + 1), state)
        self.assertEqual(run.seals()[-1], state_seal(notary, state))
        self.assertEqual(run.seals()[500], state_seal(notary, run.state_at(501)))

    def test_level_0(self):
        notary = Notary()
        run = Run(notary, STOP, (), first_state(), 0)
        self.assertEqual(run.seals(), (told_seal(notary, state_with(status=1)),))
        self.assertEqual(run.state_at(1), state_with(status=1))


if __name__ == "__main__":
    unittest.main()
