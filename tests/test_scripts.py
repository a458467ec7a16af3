"""[9.4]: scripts as texts."""

import unittest

from onewatcher.errors import BadText
from onewatcher.scripts import print_script, read_script
from onewatcher.seals import MAX_PART

LINES = (
    ("block", ("block", ())),
    ("block 3", ("block", (3,))),
    ("block 3 1 2 3 0", ("block", (3, 1, 2, 3, 0))),
    ("back 2", ("back", 2)),
    ("back 0", ("back", 0)),
    ("ann puts 50 7", ("send", "ann", ("put", 50, 7))),
    ("ann asks", ("send", "ann", ("ask",))),
    ("bob lies 3 1 99", ("lie", "bob", 3, 1, 99)),
    ("bob forges 12 5", ("forge", "bob", 12, 5)),
    ("c cuts", ("cut", "c")),
    ("c0 papers", ("paper", "c0")),
    ("zz9plural9z gathers", ("gather", "zz9plural9z")),
)


class ReadTest(unittest.TestCase):
    def refused(self, text, line=1):
        with self.assertRaises(BadText) as held:
            read_script(text)
        self.assertEqual(held.exception.line, line, text)

    def test_each_line(self):
        for line, act in LINES:
            self.assertEqual(read_script(line), (act,))

    def test_many_lines(self):
        text = "\n".join(line for line, _ in LINES)
        self.assertEqual(read_script(text), tuple(act for _, act in LINES))
        self.assertEqual(read_script("block\nblock"), (("block", ()), ("block", ())))

    def test_players_with_the_names_of_other_lines(self):
        for name in ("block", "back", "puts", "asks"):
            self.assertEqual(read_script(name + " asks"), (("send", name, ("ask",)),))
            self.assertEqual(read_script(name + " puts 1 2"), (("send", name, ("put", 1, 2)),))
            self.assertEqual(read_script(name + " lies 1 2 3"), (("lie", name, 1, 2, 3),))
            self.assertEqual(read_script(name + " forges 1 2"), (("forge", name, 1, 2),))
            for verb, word in (("cuts", "cut"), ("papers", "paper"), ("gathers", "gather")):
                self.assertEqual(read_script(name + " " + verb), ((word, name),))
            self.refused(name + " asks 1")
            self.refused(name + " puts 1")

    def test_names(self):
        for name in ("a", "z", "a0", "abcdefghijkl", "a12345678901", "z99"):
            self.assertEqual(read_script(name + " cuts"), (("cut", name),))
        for name in ("abcdefghijklm", "a123456789012", "0a", "9", "A", "aB", "a_b", "a-b", "a.", "a:", "", "a~", "-a"):
            self.refused(name + " cuts")
            self.refused(name + " puts 1 2")

    def test_integers(self):
        for text, number in (("0", 0), ("1", 1), ("10", 10), (str(MAX_PART), MAX_PART), ("4294967296", 2 ** 32)):
            self.assertEqual(read_script("ann puts {0} {0}".format(text)), (("send", "ann", ("put", number, number)),))
            self.assertEqual(read_script("ann lies {0} {0} {0}".format(text)), (("lie", "ann") + (number,) * 3,))
            self.assertEqual(read_script("back " + text), (("back", number),))
            self.assertEqual(read_script("block 5 " + text), (("block", (5, number)),))
        for text in (str(MAX_PART + 1), "1" + "0" * 15, "9" * 400, "01", "00", "-1", "+1", "1.0", "1_0", "a", "0x1",
                     "1a", "r1", "-0", "1e3"):
            for line in ("ann puts {} 1", "ann puts 1 {}", "ann lies {} 1 1", "ann lies 1 {} 1", "ann lies 1 1 {}",
                         "ann forges {} 1", "ann forges 1 {}", "back {}", "block {}", "block 1 {}", "block {} 1"):
                self.refused(line.format(text))

    def test_numbers_of_operands(self):
        for line in ("back", "back 1 2", "ann puts", "ann puts 1", "ann puts 1 2 3", "ann asks 1", "ann lies",
                     "ann lies 1 2", "ann lies 1 2 3 4", "ann forges 1", "ann forges 1 2 3", "ann cuts 1",
                     "ann papers 1", "ann gathers 1 2", "ann", "puts", "asks"):
            self.refused(line)

    def test_unknown_words(self):
        for line in ("ann put 1 2", "ann sends", "ann Asks", "ann asks ann", "Block", "blocks", "Back 1", "ann bob",
                     "ann block", "ann back 1", "1 2", "ann 1", "block asks asks", "back asks 1", "block ann",
                     "ann asks; what", "# ann", "ann asks\r"):
            self.refused(line)

    def test_spaces(self):
        for line, _ in LINES:
            self.refused(" " + line)
            self.refused(line + " ")
            if " " in line:
                self.refused(line.replace(" ", "  ", 1))
                self.refused(line.replace(" ", "\t", 1))
        self.refused(" ")
        self.refused("  ")

    def test_empty_lines(self):
        self.assertEqual(read_script(""), ())
        self.refused("\n")
        self.refused("\n\n")
        self.refused("block\n", 2)
        self.refused("\nblock")
        self.refused("block\n\nblock", 2)
        self.refused("block\nblock\n\n", 3)

    def test_the_first_line_at_fault(self):
        good = [line for line, _ in LINES]
        for at in (0, 5, len(good) - 1):
            rows = list(good)
            rows[at] = "what is this"
            self.refused("\n".join(rows), at + 1)
            rows[-1] = "back"
            self.refused("\n".join(rows), at + 1)
        self.refused("block\nback\nann puts 1", 2)
        self.refused("block\nann puts 1 {}\nann".format(MAX_PART + 1), 2)


class PrintTest(unittest.TestCase):
    def test_each_act(self):
        for line, act in LINES:
            self.assertEqual(print_script((act,)), line)
        self.assertEqual(print_script(()), "")

    def test_back_again(self):
        text = "\n".join(line for line, _ in LINES)
        self.assertEqual(print_script(read_script(text)), text)
        acts = tuple(act for _, act in LINES)
        self.assertEqual(read_script(print_script(acts)), acts)
        acts = (("send", "block", ("ask",)), ("block", (MAX_PART, 0)), ("cut", "back"), ("back", MAX_PART),
                ("send", "puts", ("put", 0, MAX_PART)))
        self.assertEqual(read_script(print_script(acts)), acts)


if __name__ == "__main__":
    unittest.main()
