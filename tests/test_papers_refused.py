"""[3.7] and [3.8]: papers that are not accepted.

Each forgery breaks one condition alone: whatever else could be asked for is sealed, also the
state behind the step that the paper pretends.
"""

import unittest

from onewatcher.machine import first_state, step
from onewatcher.papers import check_paper, make_paper
from onewatcher.seals import MAX_PART, Notary
from onewatcher.states import fields_of, input_root, memory_root, program_root, question, state_seal
from onewatcher.trees import path_of

TOP = 4294967295
CELLS = tuple(range(500, 564))
WORDS = (21, 22, 23)
PROGRAM = (("jump", 5), ("load", 0, 2), ("store", 0, 2), ("read", 1), ("write", 3), ("left", 0), ("load", 0, 2),
           ("copy", 0, 1))
FIELDS, CODE, CODE_PATH, WORD, WORD_PATH, GIVEN, GIVEN_PATH = range(7)


def state_with(place=0, registers=(11, 12, 3, 14), memory=CELLS, position=1, written=(7, 8), status=0):
    return (place, registers, memory, position, written, status)


def replaced(row, at, value):
    return row[:at] + (value,) + row[at + 1:]


def word_path(notary, words, index):
    """The path of a word in a tree of 64 words, all of whose nodes are sealed."""
    padded = tuple(words) + (0,) * (64 - len(words))
    return path_of(notary, tuple(notary.seal(("word", word)) for word in padded), index)


def code_path(notary, program, place):
    codes = tuple(program) + ((),) * (64 - len(program))
    return path_of(notary, tuple(notary.seal(("code",) + code) for code in codes), place)


def nested(depth):
    value = ()
    for _ in range(depth):
        value = (value,)
    return value


class RefusedTest(unittest.TestCase):
    def setUp(self):
        self.notary = Notary()
        self.question = question(self.notary, PROGRAM, WORDS, first_state(), 4)

    def seal(self, *parts):
        return self.notary.seal(parts)

    def seal_fields(self, fields):
        return self.notary.seal(("state",) + fields)

    def answer(self, before, paper, asked=None):
        size, finds = self.notary.size(), self.notary.finds()
        found = check_paper(self.notary, asked or self.question, before, paper)
        self.assertIs(type(found), int)
        self.assertEqual(self.notary.size(), size)
        self.assertLessEqual(self.notary.finds(), finds + 24)
        return found

    def refused(self, before, paper, asked=None):
        self.assertEqual(self.answer(before, paper, asked), 0, paper)

    def made(self, state):
        """The right paper of a state and the state's seal."""
        paper = make_paper(self.notary, PROGRAM, WORDS, state)
        before = state_seal(self.notary, state)
        self.assertEqual(self.answer(before, paper), state_seal(self.notary, step(PROGRAM, WORDS, state)))
        return before, paper

    def all_made(self):
        states = [state_with(place) for place in range(9)]
        states += [state_with(status=1), state_with(2, status=2), state_with(1, (0, 0, 64, 0)),
                   state_with(2, (0, 0, 64, 0)), state_with(3, position=3), first_state()]
        return [self.made(state) for state in states]

    def refused_forgery(self, fields, behind, code=(), path=(), rest=(0, (), 0, ())):
        """A paper of sealed fields, with the state behind sealed too, is refused."""
        before = self.seal_fields(fields)
        self.seal_fields(behind)
        self.refused(before, (fields, code, path) + rest)

    def accepted_forgery(self, fields, behind, code=(), path=(), rest=(0, (), 0, ())):
        before = self.seal_fields(fields)
        result = self.seal_fields(behind)
        self.assertEqual(self.answer(before, (fields, code, path) + rest), result)

    def test_another_before(self):
        for before, paper in self.all_made():
            others = [0, -1, before + 1, before - 1, 2 ** 48, 2 ** 60, self.notary.size() + 1]
            others += [other for other, _ in self.all_made() if other != before]
            for other in others:
                self.refused(other, paper)

    def test_fields_without_a_seal(self):
        paper = make_paper(self.notary, PROGRAM, WORDS, state_with())
        fields = replaced(paper[FIELDS], 1, 99)
        self.seal_fields(replaced(fields, 0, 5))
        for before in (0, -1, 1, self.notary.size(), self.notary.size() + 1):
            self.refused(before, replaced(paper, FIELDS, fields))

    def test_the_number_of_parts(self):
        for before, paper in self.all_made():
            for wrong in ((), paper[:6], paper[1:], paper + (0,), paper + ((),), (paper,), paper[:5]):
                self.refused(before, wrong)

    def test_the_number_of_fields(self):
        before, paper = self.made(state_with())
        fields = paper[FIELDS]
        for wrong in ((), fields[:8], fields[1:], fields + (0,), (fields,)):
            self.refused(before, replaced(paper, FIELDS, wrong))
            if wrong and wrong != (fields,):
                sealed = self.seal_fields(wrong)
                self.refused(sealed, replaced(paper, FIELDS, wrong))

    def test_each_field_of_another_kind_or_out_of_range(self):
        for before, paper in self.all_made():
            for at in range(9):
                for wrong in (True, False, -1, MAX_PART + 1, None, "", "1", (), (0,), str(paper[FIELDS][at])):
                    self.refused(before, replaced(paper, FIELDS, replaced(paper[FIELDS], at, wrong)))

    def test_fields_that_are_true_or_false_where_they_are_one_or_zero(self):
        state = state_with(1, (1, 0, 0, 1), (0,) * 64, 1, (), 0)
        before, paper = self.made(state)
        for at, value in enumerate(paper[FIELDS]):
            if value in (0, 1):
                self.refused(before, replaced(paper, FIELDS, replaced(paper[FIELDS], at, value == 1)))

    def test_fields_that_are_texts_have_seals_too(self):
        before, paper = self.made(state_with(status=1))
        for at in range(9):
            fields = replaced(paper[FIELDS], at, "1")
            self.refused_forgery(fields, fields)

    def test_a_status_of_3(self):
        fields = fields_of(self.notary, state_with())
        for status in (3, 4, MAX_PART):
            forged = replaced(fields, 8, status)
            self.refused_forgery(forged, forged)
        self.accepted_forgery(replaced(fields, 8, 2), replaced(fields, 8, 2))
        self.accepted_forgery(replaced(fields, 8, 1), replaced(fields, 8, 1))

    def test_a_register_that_is_no_word(self):
        fields = fields_of(self.notary, state_with(0))
        path = code_path(self.notary, PROGRAM, 0)
        for at in (1, 2, 3, 4):
            for value in (TOP + 1, MAX_PART):
                forged = replaced(fields, at, value)
                self.refused_forgery(forged, replaced(forged, 0, 5), ("jump", 5), path)
                ended = replaced(forged, 8, 1)
                self.refused_forgery(ended, ended)
            forged = replaced(fields, at, TOP)
            self.accepted_forgery(forged, replaced(forged, 0, 5), ("jump", 5), path)

    def test_a_place_of_65(self):
        fields = fields_of(self.notary, state_with(64))
        self.accepted_forgery(fields, replaced(fields, 8, 2))
        for place in (65, 66, MAX_PART):
            forged = replaced(fields, 0, place)
            self.refused_forgery(forged, replaced(forged, 8, 2))
            ended = replaced(forged, 8, 1)
            self.refused_forgery(ended, ended)

    def test_a_position_behind_the_input(self):
        path = code_path(self.notary, PROGRAM, 0)
        fields = fields_of(self.notary, state_with(0))
        for position in (4, 5, 64, 65, MAX_PART):
            forged = replaced(fields, 6, position)
            self.refused_forgery(forged, replaced(forged, 0, 5), ("jump", 5), path)
            ended = replaced(forged, 8, 1)
            self.refused_forgery(ended, ended)
        forged = replaced(fields, 6, 3)
        self.accepted_forgery(forged, replaced(forged, 0, 5), ("jump", 5), path)

    def test_other_fields_may_be_any_numbers(self):
        # Nobody looks at the memory root and the chain of a state whose step needs neither.
        path = code_path(self.notary, PROGRAM, 0)
        fields = fields_of(self.notary, state_with(0))
        for at in (5, 7):
            for value in (0, 1, MAX_PART):
                forged = replaced(fields, at, value)
                self.accepted_forgery(forged, replaced(forged, 0, 5), ("jump", 5), path)

    def test_a_code_that_is_none(self):
        for before, paper in self.all_made():
            if paper[CODE] == ():
                continue
            for wrong in ((), ("nop",), ("jump",), ("jump", 65), ("jump", True), ("set", 4, 0), ("stop", 0), "jump", 0,
                          None, True, (0,), ((),), (("jump", 5),), ["jump", 5], paper[CODE] + (0,), paper[CODE][:-1]):
                self.refused(before, replaced(paper, CODE, wrong))

    def test_a_code_that_is_none_but_stands_in_the_program(self):
        # A program of which somebody sealed what is no instruction.
        fields = fields_of(self.notary, state_with(0))
        for wrong in (("nop",), ("jump", 70), ("set", 0, TOP + 1), ("copy", 0, 4), ("stop", 1)):
            program = (wrong,) + PROGRAM[1:]
            asked = (program_root(self.notary, program),) + self.question[1:]
            path = code_path(self.notary, program, 0)
            for behind in (replaced(fields, 0, 1), replaced(fields, 0, 70), replaced(fields, 8, 1),
                           replaced(fields, 8, 2)):
                self.seal_fields(behind)
            self.refused(self.seal_fields(fields), (fields, wrong, path, 0, (), 0, ()), asked)

    def test_a_code_of_another_place(self):
        for place in range(8):
            state = state_with(place)
            before, paper = self.made(state)
            for other, code in enumerate(PROGRAM):
                for path in (code_path(self.notary, PROGRAM, place), code_path(self.notary, PROGRAM, other)):
                    if code != PROGRAM[place]:
                        # What the other code would lead to is sealed.
                        moved = make_paper(self.notary, (code,) * 8, WORDS, state)
                        self.refused(before, moved[:1] + (code, path) + moved[3:])

    def test_a_code_of_another_program(self):
        state = state_with(0)
        before, paper = self.made(state)
        for code in (("jump", 6), ("set", 0, 1), ("write", 3), ("stop",), ("copy", 0, 1), ("store", 0, 2)):
            program = (code,) + PROGRAM[1:]
            other = make_paper(self.notary, program, WORDS, state)
            self.refused(before, other)
            # It is the paper of the question about that program.
            asked = question(self.notary, program, WORDS, first_state(), 4)
            self.assertEqual(self.answer(before, other, asked), state_seal(self.notary, step(program, WORDS, state)))
            self.refused(before, paper, asked)

    def test_the_same_code_at_another_place(self):
        # The load stands at the places 1 and 6, with paths of their own.
        before, paper = self.made(state_with(1))
        self.refused(before, replaced(paper, CODE_PATH, code_path(self.notary, PROGRAM, 6)))

    def test_a_code_where_none_is_due(self):
        for state in (state_with(0, status=1), state_with(0, status=2), state_with(8), state_with(64)):
            before, paper = self.made(state)
            place = min(state[0], 63)
            for at in (0, place):
                code = PROGRAM[at] if at < 8 else ("stop",)
                path = code_path(self.notary, PROGRAM, at)
                self.seal_fields(replaced(paper[FIELDS], 0, 5))
                self.refused(before, replaced(replaced(paper, CODE, code), CODE_PATH, path))
                self.refused(before, replaced(paper, CODE, code))
                self.refused(before, replaced(paper, CODE_PATH, path))

    def test_a_place_behind_the_program_length(self):
        # The tree has an instruction there, but the question says that the program is shorter.
        asked = replaced(self.question, 1, 3)
        state = state_with(4)
        before, paper = self.made(state)
        self.refused(before, paper, asked)
        faulty = self.seal_fields(replaced(paper[FIELDS], 8, 2))
        self.assertEqual(self.answer(before, (paper[FIELDS], (), (), 0, (), 0, ()), asked), faulty)

    def test_no_code_where_one_is_due(self):
        for place in range(8):
            before, paper = self.made(state_with(place))
            self.seal_fields(replaced(paper[FIELDS], 8, 2))
            self.refused(before, (paper[FIELDS], (), (), 0, (), 0, ()))
            self.refused(before, replaced(replaced(paper, CODE, ()), CODE_PATH, ()))
            self.refused(before, replaced(paper, CODE_PATH, ()))
            self.refused(before, replaced(paper, CODE, ()))

    def test_the_empty_code_with_its_path(self):
        for place in (8, 20, 63):
            state = state_with(place)
            before, paper = self.made(state)
            self.refused(before, replaced(paper, CODE_PATH, code_path(self.notary, PROGRAM, place)))

    def test_paths_of_other_lengths(self):
        for before, paper in self.all_made():
            for at in (CODE_PATH, WORD_PATH, GIVEN_PATH):
                path = paper[at]
                if path == ():
                    for count in (1, 5, 6, 7):
                        self.refused(before, replaced(paper, at, (1,) * count))
                    continue
                for wrong in ((), path[:5], path[1:], path + (1,), path + (path[5],), (1,) + path, path * 2, (path,)):
                    self.refused(before, replaced(paper, at, wrong))

    def test_a_path_of_seven_that_leads_on(self):
        # A root above the root, that the question or the state names.
        state = state_with(1)
        before, paper = self.made(state)
        higher = self.seal("pair", self.question[0], 77)
        self.refused(before, replaced(paper, CODE_PATH, paper[CODE_PATH] + (77,)), replaced(self.question, 0, higher))
        fields = paper[FIELDS]
        forged = replaced(fields, 5, self.seal("pair", fields[5], 77))
        self.refused_forgery(forged, replaced(replaced(forged, 0, 2), 1, CELLS[3]), paper[CODE], paper[CODE_PATH],
                             (CELLS[3], paper[WORD_PATH] + (77,), 0, ()))
        state = state_with(3)
        before, paper = self.made(state)
        higher = self.seal("pair", self.question[2], 77)
        self.refused(before, replaced(paper, GIVEN_PATH, paper[GIVEN_PATH] + (77,)),
                     replaced(self.question, 2, higher))

    def test_a_path_of_five_that_leads_to_the_root_below(self):
        state = state_with(1)
        before, paper = self.made(state)
        path = paper[CODE_PATH]
        low = self.notary.find(("code",) + PROGRAM[1])
        for element in path[:5]:
            low = self.notary.find(("pair", low, element)) or self.notary.find(("pair", element, low))
        self.assertNotEqual(low, 0)
        self.refused(before, replaced(paper, CODE_PATH, path[:5]), replaced(self.question, 0, low))

    def test_a_path_with_one_other_element(self):
        for before, paper in self.all_made():
            for at in (CODE_PATH, WORD_PATH, GIVEN_PATH):
                for height in range(len(paper[at])):
                    element = paper[at][height]
                    wrongs = (0, 1, element + 1, element - 1, MAX_PART, MAX_PART + 1, -1, True, False, None, "", "1",
                              (), (element,))
                    for wrong in wrongs:
                        if wrong != element or isinstance(wrong, bool):
                            self.refused(before, replaced(paper, at, replaced(paper[at], height, wrong)))

    def test_a_path_in_another_order(self):
        for before, paper in self.all_made():
            for at in (CODE_PATH, WORD_PATH, GIVEN_PATH):
                path = paper[at]
                if path != path[::-1]:
                    self.refused(before, replaced(paper, at, path[::-1]))

    def test_another_word(self):
        for place in (1, 2):
            state = state_with(place)
            before, paper = self.made(state)
            for word in (0, CELLS[2], CELLS[4], 504, TOP):
                if word != CELLS[3]:
                    # The whole tree with the other word is sealed, and the state that it would lead to.
                    memory = replaced(CELLS, 3, word)
                    other = make_paper(self.notary, PROGRAM, WORDS, replaced(state, 2, memory))
                    behind = step(PROGRAM, WORDS, replaced(state, 2, memory))
                    state_seal(self.notary, replaced(behind, 2, CELLS))
                    self.refused(before, replaced(paper, WORD, word))
                    self.refused(before, replaced(replaced(paper, WORD, word), WORD_PATH, other[WORD_PATH]))
            for word in (-1, TOP + 1, MAX_PART, True, False, None, "", "503", (), (503,)):
                self.refused(before, replaced(paper, WORD, word))

    def test_the_word_of_another_index(self):
        for place in (1, 2):
            state = state_with(place)
            before, paper = self.made(state)
            for index in (0, 2, 4, 35, 63):
                behind = step(PROGRAM, WORDS, replaced(state, 2, replaced(CELLS, 3, CELLS[index])))
                state_seal(self.notary, replaced(behind, 2, CELLS))
                path = word_path(self.notary, CELLS, index)
                self.refused(before, replaced(replaced(paper, WORD, CELLS[index]), WORD_PATH, path))

    def test_a_word_that_is_no_word_but_has_a_leaf(self):
        for word in (TOP + 1, MAX_PART):
            leaves = [self.seal("word", cell) for cell in CELLS]
            leaves[3] = self.seal("word", word)
            path = path_of(self.notary, tuple(leaves), 3)
            row = leaves
            while len(row) > 1:
                row = [self.seal("pair", row[n], row[n + 1]) for n in range(0, 64, 2) if n < len(row)]
            fields = replaced(fields_of(self.notary, state_with(1)), 5, row[0])
            self.refused_forgery(fields, replaced(replaced(fields, 0, 2), 1, word), PROGRAM[1],
                                 code_path(self.notary, PROGRAM, 1), (word, path, 0, ()))

    def test_another_given_word(self):
        state = state_with(3)
        before, paper = self.made(state)
        for word in (0, 21, 23, TOP):
            words = replaced(WORDS, 1, word)
            other = make_paper(self.notary, PROGRAM, words, state)
            self.refused(before, replaced(paper, GIVEN, word))
            self.refused(before, other)
            self.refused(before, replaced(paper, GIVEN_PATH, other[GIVEN_PATH][::-1]))
        for word in (-1, TOP + 1, MAX_PART, True, None, "", (), (22,)):
            self.refused(before, replaced(paper, GIVEN, word))
        for position in (0, 2, 3):
            path = word_path(self.notary, WORDS, position)
            word = (WORDS + (0,))[position]
            state_seal(self.notary, (4, (11, word, 3, 14), CELLS, 2, (7, 8), 0))
            self.refused(before, replaced(replaced(paper, GIVEN, word), GIVEN_PATH, path))

    def test_a_word_and_a_path_where_nothing_is_looked_at(self):
        for before, paper in self.all_made():
            rights = ((WORD, WORD_PATH, CELLS, 3), (GIVEN, GIVEN_PATH, WORDS, 1))
            for at, path_at, words, index in rights:
                if paper[path_at] == ():
                    path = word_path(self.notary, words, index)
                    self.refused(before, replaced(replaced(paper, at, words[index]), path_at, path))
                    self.refused(before, replaced(paper, at, words[index]))
                    self.refused(before, replaced(paper, at, 1))
                    self.refused(before, replaced(paper, at, False))
                    self.refused(before, replaced(paper, path_at, path))
                    self.refused(before, replaced(paper, path_at, 0))

    def test_no_word_and_no_path_where_one_is_looked_at(self):
        for place, at in ((1, WORD), (2, WORD), (3, GIVEN)):
            before, paper = self.made(state_with(place))
            fields = paper[FIELDS]
            self.seal_fields(replaced(fields, 8, 2))
            self.seal_fields(replaced(replaced(fields, 0, 2), 1, 0))
            self.seal_fields(replaced(replaced(replaced(fields, 0, 4), 2, 0), 6, 2))
            self.refused(before, replaced(replaced(paper, at, 0), at + 1, ()))
            self.refused(before, replaced(paper, at, 0))
            self.refused(before, replaced(paper, at + 1, ()))

    def test_a_memory_root_of_0(self):
        fields = replaced(fields_of(self.notary, state_with(1)), 5, 0)
        path = code_path(self.notary, PROGRAM, 1)
        for word in (0, 9, 503):
            for other in (self.seal("word", word), 1, 999999):
                self.refused_forgery(fields, replaced(replaced(fields, 0, 2), 1, word), PROGRAM[1], path,
                                     (word, (other,) * 6, 0, ()))

    def test_no_path_where_the_root_is_the_leaf_itself(self):
        fields = fields_of(self.notary, state_with(1, (11, 12, 0, 14)))
        forged = replaced(fields, 5, self.seal("word", 987))
        self.refused_forgery(forged, replaced(replaced(forged, 0, 2), 1, 987), PROGRAM[1],
                             code_path(self.notary, PROGRAM, 1), (987, (), 0, ()))
        # So do a program and an input that are a leaf.
        fields = fields_of(self.notary, state_with(0))
        self.seal_fields(replaced(fields, 0, 5))
        asked = replaced(self.question, 0, self.seal("code", "jump", 5))
        self.refused(self.seal_fields(fields), (fields, PROGRAM[0], (), 0, (), 0, ()), asked)
        fields = fields_of(self.notary, state_with(3, position=0))
        self.seal_fields(replaced(replaced(replaced(fields, 0, 4), 2, 987), 6, 1))
        asked = replaced(self.question, 2, self.seal("word", 987))
        self.refused(self.seal_fields(fields),
                     (fields, PROGRAM[3], code_path(self.notary, PROGRAM, 3), 0, (), 987, ()), asked)

    def pairs_over(self, reached, index):
        """The root of pairs over a number, beside 77 at each height."""
        for _ in range(6):
            reached = self.seal("pair", 77, reached) if index % 2 else self.seal("pair", reached, 77)
            index //= 2
        return reached

    def test_a_leaf_that_is_not_there(self):
        # The word's leaf has no seal, but pairs with 0 in its place lead to the memory root.
        fields = replaced(fields_of(self.notary, state_with(1)), 5, self.pairs_over(0, 3))
        self.assertEqual(self.notary.find(("word", 987)), 0)
        self.refused_forgery(fields, replaced(replaced(fields, 0, 2), 1, 987), PROGRAM[1],
                             code_path(self.notary, PROGRAM, 1), (987, (77,) * 6, 0, ()))
        asked = replaced(self.question, 2, self.pairs_over(0, 1))
        fields = fields_of(self.notary, state_with(3))
        self.seal_fields(replaced(replaced(replaced(fields, 0, 4), 2, 987), 6, 2))
        self.refused(self.seal_fields(fields), (fields, PROGRAM[3], code_path(self.notary, PROGRAM, 3), 0, (), 987,
                                                (77,) * 6), asked)
        asked = replaced(self.question, 0, self.pairs_over(0, 0))
        fields = fields_of(self.notary, state_with(0))
        self.seal_fields(replaced(fields, 0, 33))
        self.assertEqual(self.notary.find(("code", "jump", 33)), 0)
        self.refused(self.seal_fields(fields), (fields, ("jump", 33), (77,) * 6, 0, (), 0, ()), asked)

    def test_a_forged_tree_is_as_good_as_another(self):
        # With a leaf that has a seal, the same pairs are a path like any other.
        word = self.seal("word", 987)
        fields = replaced(fields_of(self.notary, state_with(1)), 5, self.pairs_over(word, 3))
        self.accepted_forgery(fields, replaced(replaced(fields, 0, 2), 1, 987), PROGRAM[1],
                              code_path(self.notary, PROGRAM, 1), (987, (77,) * 6, 0, ()))

    def store_paper(self, word):
        fields = replaced(fields_of(self.notary, state_with(2)), 5, self.pairs_over(self.seal("word", word), 3))
        path = code_path(self.notary, PROGRAM, 2)
        return fields, path, (word, (77,) * 6, 0, ())

    def test_a_store_whose_new_seals_are_not_there(self):
        fields, path, rest = self.store_paper(987)
        # The register 0 with 11 is stored at the index 3.
        before = self.seal_fields(fields)
        paper = (fields, PROGRAM[2], path) + rest
        roots = [0, fields[5], self.pairs_over(0, 3)]
        for root in roots:
            self.seal_fields(replaced(replaced(fields, 0, 3), 5, root))
        self.refused(before, paper)
        reached = self.seal("word", 11)
        self.refused(before, paper)
        index = 3
        for _ in range(6):
            reached = self.seal("pair", 77, reached) if index % 2 else self.seal("pair", reached, 77)
            index //= 2
            self.refused(before, paper)
        result = self.seal_fields(replaced(replaced(fields, 0, 3), 5, reached))
        self.assertEqual(self.answer(before, paper), result)

    def test_a_store_of_the_word_that_is_there(self):
        fields, path, rest = self.store_paper(11)
        self.accepted_forgery(fields, replaced(fields, 0, 3), PROGRAM[2], path, rest)

    def test_a_write_whose_chain_is_not_there(self):
        fields = replaced(fields_of(self.notary, state_with(4)), 7, 777777)
        path = code_path(self.notary, PROGRAM, 4)
        before = self.seal_fields(fields)
        paper = (fields, PROGRAM[4], path, 0, (), 0, ())
        for chain in (0, 777777):
            self.seal_fields(replaced(replaced(fields, 0, 5), 7, chain))
        self.refused(before, paper)
        chain = self.seal("wrote", 777777, 14)
        self.refused(before, paper)
        result = self.seal_fields(replaced(replaced(fields, 0, 5), 7, chain))
        self.assertEqual(self.answer(before, paper), result)

    def test_a_state_behind_that_is_not_there(self):
        for place, register, value in ((0, 1, 11), (5, 1, 2), (7, 1, 12), (64, 1, 11)):
            notary = Notary()
            self.notary = notary
            self.question = question(notary, PROGRAM, WORDS, first_state(), 4)
            state = state_with(place, (11, 12, 3, 14))
            fields = fields_of(notary, state)
            before = self.seal_fields(fields)
            code, path = (), ()
            if place < 8:
                code, path = PROGRAM[place], code_path(notary, PROGRAM, place)
            paper = (fields, code, path, 0, (), 0, ())
            self.refused(before, paper)
            result = state_seal(notary, step(PROGRAM, WORDS, state))
            self.assertEqual(self.answer(before, paper), result)

    def test_any_value_in_the_place_of_a_paper(self):
        befores = [before for before, _ in self.all_made()] + [0, 1, -1]
        values = [0, 1, -1, MAX_PART, 2 ** 70, True, False, None, "", "paper", "a" * 100, (), (0,) * 7, ((),) * 7,
                  (None,) * 7, (True,) * 7, ("",) * 7, ((0,) * 9,) * 7, ((0,) * 9, (), (), 0, (), 0, ()),
                  ((0,) * 9, ("stop",), (0,) * 6, 0, (), 0, ())]
        values += [nested(depth) for depth in range(13)]
        values += [(nested(depth),) * 7 for depth in range(12)]
        values += [((nested(depth),) * 9, (), (), 0, (), 0, ()) for depth in range(11)]
        for before in befores:
            for value in values:
                self.refused(before, value)

    def test_any_value_in_the_place_of_a_part(self):
        values = [0, 1, -1, MAX_PART + 1, True, None, "", "stop", (), (0,), (True,) * 6, ("",) * 6, (None,) * 9,
                  ((),) * 6, nested(10), (nested(9),) * 6, (nested(9),) * 9, ("set", (), 0), ((), 0), (None, 0, 0)]
        for before, paper in self.all_made():
            for at in range(7):
                for value in values:
                    if value != paper[at] or isinstance(value, bool):
                        self.refused(before, replaced(paper, at, value))


class TruthTest(unittest.TestCase):
    """[3.8]: whatever a paper was made for, an accepted one gives the state behind the step."""

    def setUp(self):
        self.notary = Notary()
        programs = (PROGRAM, PROGRAM[1:] + PROGRAM[:1], PROGRAM[:3], (("write", 0), ("read", 0), ("store", 1, 2)))
        inputs = (WORDS, (21, 22), (21, 23, 22), (0, 0, 0), ())
        states = [state_with(place, position=position) for place in (0, 1, 2, 3, 7) for position in (0, 1)]
        states += [state_with(1, memory=replaced(CELLS, 3, 9)), state_with(2, memory=replaced(CELLS, 3, 9)),
                   state_with(0, status=1), state_with(4, written=(7,)), state_with(3, (0, 1, 2, 3))]
        self.cases = [(program, words, state) for program in programs for words in inputs for state in states
                      if state[3] <= len(words)]
        self.papers = [make_paper(self.notary, *case) for case in self.cases]

    def test_papers_of_other_states_programs_and_inputs(self):
        papers = sorted(set(self.papers), key=repr)
        accepted = 0
        for program, words, state in self.cases[::3]:
            asked = question(self.notary, program, words, state, 2)
            right = state_seal(self.notary, step(program, words, state))
            for paper in papers:
                found = check_paper(self.notary, asked, asked[4], paper)
                self.assertIn(found, (0, right))
                accepted += found != 0
        self.assertGreaterEqual(accepted, len(self.cases[::3]))

    def test_papers_put_together_from_two(self):
        papers = sorted(set(self.papers), key=repr)[::9]
        for (program, words, state), mine in list(zip(self.cases, self.papers))[::11]:
            asked = question(self.notary, program, words, state, 2)
            right = state_seal(self.notary, step(program, words, state))
            for other in papers:
                for mask in range(128):
                    mixed = tuple(other[at] if mask >> at & 1 else mine[at] for at in range(7))
                    self.assertIn(check_paper(self.notary, asked, asked[4], mixed), (0, right))

    def test_an_input_root_and_a_memory_root_are_not_taken_for_each_other(self):
        memory = WORDS + (0,) * 61
        self.assertEqual(memory_root(self.notary, memory), input_root(self.notary, WORDS))
        state = state_with(1, (0, 0, 1, 0), memory)
        paper = make_paper(self.notary, PROGRAM, WORDS, state)
        asked = question(self.notary, PROGRAM, WORDS, state, 0)
        right = state_seal(self.notary, step(PROGRAM, WORDS, state))
        self.assertEqual(check_paper(self.notary, asked, asked[4], paper), right)
        swapped = paper[:3] + paper[5:] + paper[3:5]
        self.assertEqual(check_paper(self.notary, asked, asked[4], swapped), 0)


if __name__ == "__main__":
    unittest.main()
