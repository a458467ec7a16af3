"""[2.5] to [2.7]: texts of programs."""

import unittest

from onewatcher.assembly import print_program, read_program
from onewatcher.errors import BadText
from onewatcher.machine import MAX_PROGRAM, NAMES, first_state, is_program, run

TOP = 4294967295

# Each instruction, as a text and as it is.
EVERY = (
    ("set r1 4294967295", ("set", 1, TOP)), ("copy r0 r3", ("copy", 0, 3)),
    ("add r0 r1 r2", ("add", 0, 1, 2)), ("sub r1 r2 r3", ("sub", 1, 2, 3)), ("mul r3 r0 r1", ("mul", 3, 0, 1)),
    ("div r2 r3 r0", ("div", 2, 3, 0)), ("mod r0 r0 r1", ("mod", 0, 0, 1)),
    ("less r1 r0 r3", ("less", 1, 0, 3)), ("same r2 r1 r0", ("same", 2, 1, 0)),
    ("load r3 r2", ("load", 3, 2)), ("store r0 r1", ("store", 0, 1)),
    ("jump 64", ("jump", 64)), ("zero r2 0", ("zero", 2, 0)),
    ("read r1", ("read", 1)), ("left r2", ("left", 2)), ("write r3", ("write", 3)), ("stop", ("stop",)),
)

# Lines that have a fault by themselves, wherever they stand.
FAULTS = (
    # An unknown instruction.
    "nop", "Stop", "STOP", "sto", "stops", "r0", "1", "stop,", "set: r0", "wait r0", "addr0 r1 r2",
    # One operand less and more.
    "stop r0", "stop stop", "set r0", "set r0 1 1", "set", "copy r0", "copy r0 r1 r2", "add r0 r1", "add r0 r1 r2 r3",
    "sub r0 r1", "sub r0 r1 r2 r3", "mul r0 r1", "mul r0 r1 r2 r3", "div r0 r1", "div r0 r1 r2 r3", "mod r0 r1",
    "mod r0 r1 r2 r3", "less r0 r1", "less r0 r1 r2 r3", "same r0 r1", "same r0 r1 r2 r3", "load r0", "load r0 r1 r2",
    "store r0", "store r0 r1 r2", "jump", "jump 1 1", "zero r0", "zero r0 1 1", "read", "read r0 r0", "left",
    "left r0 r0", "write", "write r0 r0",
    # A register that is none.
    "set r4 1", "set 0 1", "set R0 1", "set r00 1", "set r-1 1", "set r 1", "set 1 r1", "copy r0 1", "copy x r1",
    "add r4 r1 r2", "add r1 r4 r2", "add r1 r2 r4", "sub r1 r2 3", "mul r1 r2 0", "div 1 r2 r3", "mod r1 2 r3",
    "less r1 r2 x", "same r1 r2 r9", "load r4 r0", "load r0 r4", "store r4 r0", "store r0 r4", "zero r4 0", "zero 0 0",
    "read 0", "read r4", "left 0", "left r4", "write 0", "write r4", "read set",
    # A word that is none.
    "set r0 4294967296", "set r0 99999999999", "set r0 " + "9" * 5000, "set r0 -1", "set r0 +1", "set r0 00",
    "set r0 01", "set r0 007", "set r0 0000000001", "set r0 r1", "set r0 x", "set r0 1x", "set r0 0x1", "set r0 1.0",
    "set r0 1_0", "set r0 1e3", "set r0 '1'",
    # A place that is none.
    "jump 65", "jump 100", "jump 99999999999", "jump " + "1" * 5000, "jump -1", "jump 00", "jump 01", "jump 064",
    "jump 1x", "jump r0", "jump r1", "jump r2", "jump r3", "jump set", "jump stop", "jump Ab", "jump aB", "jump _a",
    "jump a_b", "jump a.b", "jump abcdefghijklm", "jump 4ab", "zero r0 65", "zero r0 01", "zero r0 r1", "zero r0 set",
    "zero r0 Ab", "zero r0 jump", "zero r0 abcdefghijklm", "zero a 0",
    # A label that is none.
    ": stop", ":", " :", "r0: stop", "r1:", "r2 : stop", "r3:stop", "set: stop", "stop: stop", "jump:", "Ab: stop",
    "aB:", "4a: stop", "1: stop", "_a:", "a-b: stop", "a_b:", "a b: stop", "a b:", "set r0 1: stop", "stop:",
    "abcdefghijklm: stop", "stop :",
    # A second colon.
    "p: q: stop", "p:q:stop", "p:: stop", "p : : stop", "p: stop :", "p: jump p:", "p::", "p: :", "p: q:", "p: set r0:1",
)

# Every name of an instruction is no label, neither ahead of a colon nor as a place.
FAULTS = FAULTS + tuple(name + ": stop" for name in NAMES) + tuple("jump " + name for name in NAMES)


class ReadTest(unittest.TestCase):
    def check(self, text, *program):
        found = read_program(text)
        self.assertEqual(found, program)
        self.assertIs(is_program(found), True)

    def test_every_instruction(self):
        self.assertEqual(sorted(program[0] for _, program in EVERY), sorted(NAMES))
        for text, instruction in EVERY:
            self.check(text, instruction)
        self.check("\n".join(text for text, _ in EVERY), *(instruction for _, instruction in EVERY))

    def test_every_register(self):
        for number in range(4):
            self.check("read r" + str(number), ("read", number))
            self.check("add r0 r{0} r3".format(number), ("add", 0, number, 3))

    def test_words_and_places(self):
        for word in (0, 1, 9, 10, 64, 65, 100, 4294967294, TOP):
            self.check("set r2 " + str(word), ("set", 2, word))
        for place in range(65):
            self.check("jump " + str(place), ("jump", place))
            self.check("zero r1 " + str(place), ("zero", 1, place))

    def test_label_ahead_of_an_instruction(self):
        self.check("read r0\nagain: write r0\njump again", ("read", 0), ("write", 0), ("jump", 1))

    def test_label_alone_in_a_line(self):
        self.check("read r0\nagain:\nwrite r0\nzero r2 again", ("read", 0), ("write", 0), ("zero", 2, 1))
        self.check("a:\n\nb:\n; here\nstop\nc:\nzero r0 a\njump b\njump c",
                   ("stop",), ("zero", 0, 0), ("jump", 0), ("jump", 1))

    def test_label_behind_its_use(self):
        self.check("jump end\nstop\nend: write r0", ("jump", 2), ("stop",), ("write", 0))

    def test_label_in_its_own_line(self):
        self.check("stop\nhere: jump here", ("stop",), ("jump", 1))

    def test_label_behind_the_last_instruction(self):
        self.check("jump end\nstop\nend:", ("jump", 2), ("stop",))
        self.check("jump end\nend:\n\n;", ("jump", 1))

    def test_several_labels_of_one_place(self):
        self.check("a:\nb: jump a\nc: jump b\njump c", ("jump", 0), ("jump", 0), ("jump", 1))

    def test_labels_that_look_like_something_else(self):
        for label in ("r4", "r", "r9", "r10", "r01", "rr0", "a", "z9", "abcdefghijkl", "a23456789012", "sets", "sto",
                      "stop1", "x0", "label"):
            self.check("stop\n{0}: jump {0}".format(label), ("stop",), ("jump", 1))
            self.check("zero r1 {0}\n{0}:".format(label), ("zero", 1, 1))

    def test_a_label_need_not_be_used(self):
        self.check("unused: stop\nother:", ("stop",))

    def test_space_ahead_of_a_colon(self):
        self.check("stop\nend : jump end", ("stop",), ("jump", 1))
        self.check("stop\n  end   :   jump end  ", ("stop",), ("jump", 1))

    def test_instruction_directly_behind_the_colon(self):
        self.check("stop\nend:jump end", ("stop",), ("jump", 1))
        self.check(" end :stop", ("stop",))

    def test_comments(self):
        self.check("; a comment\nstop; it stops\nread r0 ;;; a : b : c\n;stop\n  ; set r9\na:; set\njump a;a:",
                   ("stop",), ("read", 0), ("jump", 2))
        self.check("set r0 1;2", ("set", 0, 1))
        self.check("jump 6;4", ("jump", 6))
        self.check("jump end;x\nend: stop", ("jump", 1), ("stop",))

    def test_a_colon_in_a_comment_is_no_colon(self):
        self.check("stop ; here: there", ("stop",))
        self.check("a: stop ; b: c", ("stop",))
        self.check(";:::\nstop", ("stop",))

    def test_spaces(self):
        self.check("   set    r0     7   ", ("set", 0, 7))
        self.check("\n\n   \nadd  r0 r1   r2\n \n", ("add", 0, 1, 2))
        self.check("stop  ;", ("stop",))

    def test_lines_without_an_instruction(self):
        self.check("\n\nstop\n\n", ("stop",))
        self.check("a:\n\n\nstop\n\n  \njump a\n", ("stop",), ("jump", 0))

    def test_the_example_of_the_document(self):
        text = "set r1 1\nagain: left r0\nzero r0 done\nread r2\nadd r3 r3 r2\njump again\ndone: write r3\nstop"
        program = read_program(text)
        self.assertEqual(program[2], ("zero", 0, 6))
        self.assertEqual(program[5], ("jump", 1))
        self.assertEqual(run(program, (5, 6), first_state(), 100)[4:], ((11,), 1))


class FaultsTest(unittest.TestCase):
    def check(self, text, line):
        with self.assertRaises(BadText) as caught:
            read_program(text)
        self.assertEqual(caught.exception.line, line, text[:100])

    def test_each_fault_by_itself(self):
        for fault in FAULTS:
            self.check(fault, 1)
            self.check(fault + "\nstop\nread r0", 1)
            self.check("stop\n" + fault + "\nread r0", 2)
            self.check("stop\n\n" + fault, 3)

    def test_a_fault_behind_a_label_and_ahead_of_a_comment(self):
        for fault in FAULTS:
            self.check("stop\n  " + fault + "  ; a comment", 2)
            self.check("stop\nb: " + fault, 2)

    def test_a_label_that_stood_ahead(self):
        self.check("a: stop\na: stop", 2)
        self.check("a:\na:\nstop", 2)
        self.check("a:\n\n; a\nb:\nstop\na :stop\nstop", 6)
        self.check("a: a: stop", 1)
        self.check("a: stop\nb: stop\nc: stop\nb:\na:", 4)

    def test_a_use_is_no_label(self):
        self.assertEqual(read_program("jump a\na: jump a"), (("jump", 1), ("jump", 1)))

    def test_a_label_that_is_only_in_a_comment(self):
        self.check("stop ; a:\njump a", 2)
        self.check(";a:\njump a", 2)

    def test_the_first_of_two_faults(self):
        for one in FAULTS[::7]:
            for other in FAULTS[::11]:
                self.check("stop\n" + one + "\nstop\n" + other + "\nstop", 2)
                self.check("stop\n; x\n\n" + one + "\n" + other, 4)

    def test_an_unknown_label(self):
        self.check("jump nowhere", 1)
        self.check("stop\nzero r0 nowhere\nstop", 2)
        self.check("a: stop\n\njump b", 3)
        self.check("a: stop\njump b; b:", 2)

    def test_the_first_of_several_unknown_labels(self):
        self.check("a: stop\njump a\njump x\nzero r0 y\njump x", 3)
        self.check("a: stop\nzero r0 y\njump x", 2)
        self.check("jump b\njump c\nb: jump d", 2)

    def test_an_unknown_label_comes_behind_every_other_fault(self):
        for fault in FAULTS[::5]:
            self.check("jump nowhere\nstop\n" + fault, 3)
            self.check("stop\n" + fault + "\njump nowhere", 2)
        self.check("jump nowhere\na: stop\na: stop", 3)

    def test_no_instruction(self):
        for text in ("", "\n", " ", "   \n  ", ";", "; stop", "a:", "a:\nb:\n;c", "\n" * 199):
            self.check(text, 0)

    def test_too_many_instructions(self):
        for count in (65, 66, 100, 200):
            self.check("\n".join(["stop"] * count), 0)
        self.assertEqual(len(read_program("\n".join(["stop"] * 64))), MAX_PROGRAM)
        self.assertEqual(len(read_program("\n".join(["stop"] * 63))), 63)

    def test_other_faults_come_ahead_of_the_number_of_instructions(self):
        many = "\n".join(["stop"] * 70)
        self.check(many + "\njump nowhere", 71)
        self.check("jump nowhere\n" + many, 1)
        self.check(many + "\nnop\njump nowhere", 71)
        self.check("a: " + many + "\na:", 71)

    def test_a_label_behind_the_last_of_many_instructions(self):
        text = "jump end\n" + "stop\n" * 63 + "end:"
        self.assertEqual(read_program(text), (("jump", 64),) + (("stop",),) * 63)
        self.check("jump end\n" + "stop\n" * 64 + "end:", 0)
        self.check("jump end\n" + "stop\n" * 99 + "end:\nnop", 102)

    def test_a_text_of_200_lines(self):
        rows = ["; nothing"] * 200
        rows[199] = "end: jump start"
        rows[100] = "start: zero r0 end"
        self.assertEqual(read_program("\n".join(rows)), (("zero", 0, 1), ("jump", 0)))
        rows[198] = "jump nowhere"
        self.check("\n".join(rows), 199)
        rows[199] = "end: jump 65"
        self.check("\n".join(rows), 200)

    def test_only_spaces_separate(self):
        for text in ("set\tr0 1", "stop\t", "\tstop", "a\t: stop", "stop\r"):
            self.check("stop\n" + text, 2)


class PrintTest(unittest.TestCase):
    def test_every_instruction(self):
        for text, instruction in EVERY:
            self.assertEqual(print_program((instruction,)), text)
        self.assertEqual(print_program(tuple(instruction for _, instruction in EVERY)),
                         "\n".join(text for text, _ in EVERY))

    def test_a_text_that_is_read_and_printed(self):
        text = "  a : set  r0  5 ; five\n\n jump b\nb:zero r0 a"
        self.assertEqual(print_program(read_program(text)), "set r0 5\njump 2\nzero r0 0")

    def test_reading_gives_the_same_program(self):
        every = tuple(instruction for _, instruction in EVERY)
        programs = [(instruction,) for instruction in every]
        programs.append(every)
        programs.append((every * 4)[:64])
        programs.append((("jump", 64),) * 64)
        programs.append((("set", 3, 0), ("set", 0, 10), ("zero", 0, 7)))
        for program in programs:
            text = print_program(program)
            self.assertEqual(len(text.split("\n")), len(program))
            self.assertEqual(read_program(text), program)


if __name__ == "__main__":
    unittest.main()
