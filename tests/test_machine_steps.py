"""[2.1] and [2.4]: what a step does, and runs."""

import unittest

from onewatcher.machine import NAMES, first_state, is_state, run, step, trace

TOP = 4294967295
CELLS = tuple(range(500, 564))


def state_with(place=0, registers=(11, 12, 13, 14), memory=CELLS, position=0, written=(), status=0):
    return (place, registers, memory, position, written, status)


def at_place(place, instruction):
    """A program with the instruction at the place, with faults of its own everywhere else."""
    program = [("div", 0, 0, 0)] * 64
    program[place] = instruction
    return tuple(program)


class StepTest(unittest.TestCase):
    def check(self, instruction, before, after, words=()):
        """The step gives this state, wherever the instruction stands; `after` is for the place 0."""
        for place in (0, 1, 40, 63):
            start = (place,) + before[1:]
            moved = place if after[5] else place + after[0]
            program = at_place(place, instruction)
            found = step(program, words, start)
            self.assertEqual(found, (moved,) + after[1:], instruction)
            self.assertTrue(is_state(found))
            self.assertEqual(start, (place,) + before[1:])

    def check_fault(self, instruction, before, words=()):
        self.check(instruction, before, before[:5] + (2,), words)

    def check_result(self, name, one, other, result):
        """The calculation, with all registers apart, and with the target being one of the others."""
        self.check((name, 0, 1, 2), state_with(registers=(11, one, other, 14)),
                   state_with(1, (result, one, other, 14)))
        self.check((name, 3, 2, 0), state_with(registers=(other, 12, one, 14)),
                   state_with(1, (other, 12, one, result)))
        self.check((name, 1, 1, 2), state_with(registers=(11, one, other, 14)),
                   state_with(1, (11, result, other, 14)))
        self.check((name, 2, 1, 2), state_with(registers=(11, one, other, 14)),
                   state_with(1, (11, one, result, 14)))

    def test_set(self):
        for word in (0, 1, TOP):
            self.check(("set", 0, word), state_with(), state_with(1, (word, 12, 13, 14)))
            self.check(("set", 3, word), state_with(), state_with(1, (11, 12, 13, word)))

    def test_copy(self):
        self.check(("copy", 0, 2), state_with(), state_with(1, (13, 12, 13, 14)))
        self.check(("copy", 2, 0), state_with(), state_with(1, (11, 12, 11, 14)))
        self.check(("copy", 1, 1), state_with(), state_with(1, (11, 12, 13, 14)))

    def test_add(self):
        for one, other, result in ((2, 3, 5), (0, 0, 0), (TOP, 1, 0), (TOP, TOP, TOP - 1), (TOP, 0, TOP)):
            self.check_result("add", one, other, result)

    def test_sub(self):
        for one, other, result in ((5, 3, 2), (3, 5, TOP - 1), (0, 1, TOP), (0, TOP, 1), (TOP, TOP, 0)):
            self.check_result("sub", one, other, result)

    def test_mul(self):
        rows = ((5, 3, 15), (0, TOP, 0), (65536, 65536, 0), (65537, 65536, 65536), (TOP, TOP, 1), (TOP, 2, TOP - 1))
        for one, other, result in rows:
            self.check_result("mul", one, other, result)

    def test_div(self):
        for one, other, result in ((7, 2, 3), (6, 3, 2), (2, 7, 0), (0, 5, 0), (TOP, 1, TOP), (TOP, TOP, 1)):
            self.check_result("div", one, other, result)

    def test_mod(self):
        for one, other, result in ((7, 2, 1), (6, 3, 0), (2, 7, 2), (0, 5, 0), (TOP, 1, 0), (TOP, 10, 5)):
            self.check_result("mod", one, other, result)

    def test_division_by_zero(self):
        for name in ("div", "mod"):
            for one in (0, 1, TOP):
                self.check_fault((name, 0, 1, 2), state_with(registers=(11, one, 0, 14), written=(3,)))
                self.check_fault((name, 1, 1, 2), state_with(registers=(11, one, 0, 14)))

    def test_less(self):
        for one, other, result in ((1, 2, 1), (2, 1, 0), (2, 2, 0), (0, TOP, 1), (TOP, 0, 0), (TOP, TOP, 0)):
            self.check_result("less", one, other, result)

    def test_same(self):
        for one, other, result in ((1, 2, 0), (2, 1, 0), (2, 2, 1), (0, 0, 1), (TOP, TOP, 1), (0, TOP, 0)):
            self.check_result("same", one, other, result)

    def test_load(self):
        for index in (0, 1, 31, 62, 63):
            self.check(("load", 0, 2), state_with(registers=(11, 12, index, 14)),
                       state_with(1, (500 + index, 12, index, 14)))
            self.check(("load", 2, 2), state_with(registers=(11, 12, index, 14)),
                       state_with(1, (11, 12, 500 + index, 14)))
        for index in (64, 65, TOP):
            self.check_fault(("load", 0, 2), state_with(registers=(11, 12, index, 14)))

    def test_store(self):
        for index in (0, 1, 31, 62, 63):
            memory = CELLS[:index] + (11,) + CELLS[index + 1:]
            self.check(("store", 0, 2), state_with(registers=(11, 12, index, 14)),
                       state_with(1, (11, 12, index, 14), memory))
            memory = CELLS[:index] + (index,) + CELLS[index + 1:]
            self.check(("store", 2, 2), state_with(registers=(11, 12, index, 14)),
                       state_with(1, (11, 12, index, 14), memory))
        for index in (64, 65, TOP):
            self.check_fault(("store", 0, 2), state_with(registers=(11, 12, index, 14)))

    def test_jump(self):
        for target in (0, 1, 5, 63, 64):
            for place in (0, 5, 63):
                found = step(at_place(place, ("jump", target)), (), state_with(place))
                self.assertEqual(found, state_with(target))

    def test_zero(self):
        for target in (0, 1, 5, 63, 64):
            for place in (0, 5, 63):
                program = at_place(place, ("zero", 2, target))
                for word, moved in ((0, target), (1, place + 1), (TOP, place + 1)):
                    registers = (0 if word else 1, 12, word, 14)
                    found = step(program, (), state_with(place, registers))
                    self.assertEqual(found, state_with(moved, registers))

    def test_read(self):
        words = (71, 72, TOP)
        for position, word in enumerate(words):
            self.check(("read", 1), state_with(position=position),
                       state_with(1, (11, word, 13, 14), position=position + 1), words)
        self.check_fault(("read", 1), state_with(position=3), words)
        self.check_fault(("read", 1), state_with())
        full = tuple(range(64))
        self.check(("read", 0), state_with(position=63), state_with(1, (63, 12, 13, 14), position=64), full)
        self.check_fault(("read", 0), state_with(position=64), full)

    def test_left(self):
        words = (71, 72, 73)
        for position in range(4):
            self.check(("left", 3), state_with(position=position),
                       state_with(1, (11, 12, 13, 3 - position), position=position), words)
        self.check(("left", 0), state_with(), state_with(1, (0, 12, 13, 14)))
        self.check(("left", 0), state_with(), state_with(1, (64, 12, 13, 14)), tuple(range(64)))

    def test_write(self):
        self.check(("write", 2), state_with(), state_with(1, written=(13,)))
        self.check(("write", 0), state_with(written=(5, 5)), state_with(1, written=(5, 5, 11)))
        most = tuple(range(1024))
        self.check(("write", 3), state_with(written=most), state_with(1, written=most + (14,)))

    def test_stop(self):
        state = state_with(7, position=2, written=(1,))
        self.assertEqual(step(at_place(7, ("stop",)), (8, 9), state), state[:5] + (1,))
        self.check(("stop",), state_with(), state_with(status=1))

    def test_no_instruction_at_the_place(self):
        for program in ((("stop",),), (("set", 0, 1),) * 5, (("jump", 0),) * 63, (("stop",),) * 64):
            for place in (len(program), 64):
                state = state_with(place, position=1, written=(4,))
                self.assertEqual(step(program, (1, 2), state), state[:5] + (2,))

    def test_the_step_behind_the_last_instruction(self):
        for count in (1, 2, 64):
            program = (("set", 0, 1),) * count
            found = step(program, (), state_with(count - 1))
            self.assertEqual(found, state_with(count, (1, 12, 13, 14)))
            self.assertEqual(step(program, (), found), state_with(count, (1, 12, 13, 14), status=2))

    def test_ended_states_stay(self):
        instructions = (
            ("set", 0, 1), ("copy", 0, 1), ("add", 0, 1, 2), ("sub", 0, 1, 2), ("mul", 0, 1, 2), ("div", 0, 1, 2),
            ("mod", 0, 1, 2), ("less", 0, 1, 2), ("same", 0, 1, 2), ("load", 0, 1), ("store", 0, 1), ("jump", 9),
            ("zero", 0, 9), ("read", 0), ("left", 0), ("write", 0), ("stop",),
        )
        self.assertEqual(tuple(instruction[0] for instruction in instructions), NAMES)
        for instruction in instructions:
            for status in (1, 2):
                state = state_with(3, written=(6,), status=status)
                self.assertEqual(step(at_place(3, instruction), (1, 2), state), state)
        for status in (1, 2):
            for place in (1, 64):
                state = state_with(place, status=status)
                self.assertEqual(step((("stop",),), (), state), state)


# The sum of the words of the input, written at the end.
SUM = (
    ("set", 1, 1),
    ("left", 0),
    ("zero", 0, 6),
    ("read", 2),
    ("add", 3, 3, 2),
    ("jump", 1),
    ("write", 3),
    ("stop",),
)


class RunTest(unittest.TestCase):
    def test_a_run_to_its_end(self):
        found = run(SUM, (5, 6), first_state(), 100)
        self.assertEqual(found, (7, (0, 1, 6, 11), (0,) * 64, 2, (11,), 1))

    def test_no_steps(self):
        for state in (first_state(), state_with(2), state_with(64), state_with(2, status=2)):
            self.assertEqual(run(SUM, (5,), state, 0), state)
            self.assertEqual(trace(SUM, (5,), state, 0), [])

    def test_run_and_trace_are_steps_one_after_the_other(self):
        state = first_state()
        told = []
        for _ in range(30):
            state = step(SUM, (5, 6, 7), state)
            told.append(state)
        self.assertEqual(trace(SUM, (5, 6, 7), first_state(), 30), told)
        for count in range(1, 31):
            self.assertEqual(run(SUM, (5, 6, 7), first_state(), count), told[count - 1])
            self.assertEqual(trace(SUM, (5, 6, 7), first_state(), count), told[:count])
        self.assertEqual(told[-1][4:], ((18,), 1))

    def test_a_run_from_a_later_state(self):
        middle = run(SUM, (5, 6), first_state(), 4)
        self.assertEqual(run(SUM, (5, 6), middle, 96), run(SUM, (5, 6), first_state(), 100))
        self.assertEqual(trace(SUM, (5, 6), middle, 3), trace(SUM, (5, 6), first_state(), 7)[4:])

    def test_a_run_into_a_fault(self):
        program = (("set", 0, 64), ("write", 0), ("load", 1, 0), ("write", 0))
        found = trace(program, (), first_state(), 6)
        self.assertEqual([state[0] for state in found], [1, 2, 2, 2, 2, 2])
        self.assertEqual([state[5] for state in found], [0, 0, 2, 2, 2, 2])
        self.assertEqual(found[-1], (2, (64, 0, 0, 0), (0,) * 64, 0, (64,), 2))

    def test_the_longest_run(self):
        program = (("write", 0), ("jump", 0))
        found = trace(program, (), first_state(), 1024)
        self.assertIsInstance(found, list)
        self.assertEqual(len(found), 1024)
        self.assertEqual(found[-1], (0, (0,) * 4, (0,) * 64, 0, (0,) * 512, 0))
        program = (("write", 0),) * 63 + (("zero", 1, 0),)
        start = first_state()[:4] + ((3,) * 1024, 0)
        state = run(program, (), start, 1024)
        self.assertEqual(state[4], (3,) * 1024 + (0,) * 1008)
        self.assertTrue(is_state(state))

    def test_memory_is_kept(self):
        program = (("set", 0, 63), ("set", 1, TOP), ("store", 1, 0), ("load", 2, 0), ("write", 2), ("stop",))
        state = run(program, (), first_state(), 1024)
        self.assertEqual(state, (5, (63, TOP, TOP, 0), (0,) * 63 + (TOP,), 0, (TOP,), 1))

    def test_the_arguments_stay_as_they_were(self):
        state = first_state()
        words = (5, 6)
        trace(SUM, words, state, 20)
        run(SUM, words, state, 20)
        self.assertEqual(state, (0, (0, 0, 0, 0), (0,) * 64, 0, (), 0))
        self.assertEqual(words, (5, 6))
        self.assertEqual(SUM[6:], (("write", 3), ("stop",)))

    def test_a_returned_list_is_the_callers(self):
        found = trace(SUM, (5, 6), first_state(), 5)
        found.clear()
        self.assertEqual(len(trace(SUM, (5, 6), first_state(), 5)), 5)


if __name__ == "__main__":
    unittest.main()
