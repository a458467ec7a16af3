"""[4.1] to [4.4]: histories of rows."""

import unittest

from onewatcher.errors import BadRow
from onewatcher.histories import (
    MAX_LEVEL, first_difference, history_of, is_shaped, last_of, opening, part_at, row_of,
)
from onewatcher.seals import MAX_PART, Notary

LEVELS = range(11)
NO_LEVELS = (-1, -10, 11, 12, 2 ** 48, True, False)


def told_history(notary, row):
    """The history by the words of [4.1], half by half."""
    if len(row) == 1:
        return notary.seal(("step", row[0]))
    middle = len(row) // 2
    left = told_history(notary, row[:middle])
    right = told_history(notary, row[middle:])
    return notary.seal(("join", left, right, row[-1]))


def row_for(level, salt=0):
    return tuple((7 * n + 3 + salt) % 1009 + 1 for n in range(2 ** level))


class HistoryOfTest(unittest.TestCase):
    def test_max_level(self):
        self.assertEqual(MAX_LEVEL, 10)

    def test_every_length(self):
        for level in LEVELS:
            row = row_for(level)
            notary = Notary()
            history = history_of(notary, row)
            size = notary.size()
            self.assertEqual(told_history(notary, row), history)
            # All that the history consists of had been sealed.
            self.assertEqual(notary.size(), size)
            self.assertEqual(history_of(notary, row), history)

    def test_parts_that_were_sealed_before(self):
        for level in LEVELS:
            row = row_for(level)
            notary = Notary()
            told = told_history(notary, row)
            self.assertEqual(history_of(notary, row), told)

    def test_small_histories(self):
        notary = Notary()
        five = history_of(notary, (5,))
        self.assertEqual(notary.parts_of(five), ("step", 5))
        both = history_of(notary, (5, 6))
        self.assertEqual(notary.parts_of(both), ("join", five, notary.find(("step", 6)), 6))
        four = history_of(notary, (5, 6, 7, 8))
        self.assertEqual(notary.parts_of(four), ("join", both, notary.find(notary.parts_of(history_of(notary, (7, 8)))), 8))

    def test_numbers_that_are_no_seals(self):
        notary = Notary()
        for row in ((1,), (MAX_PART,), (1, MAX_PART), (MAX_PART, MAX_PART, 1, 999999)):
            history = history_of(notary, row)
            self.assertEqual(told_history(notary, row), history)

    def test_equal_elements(self):
        notary = Notary()
        row = (4,) * 1024
        self.assertEqual(history_of(notary, row), told_history(notary, row))
        self.assertEqual(row_of(notary, history_of(notary, row), 10), row)

    def test_different_rows_have_different_histories(self):
        notary = Notary()
        rows = [(a, b, c, d) for a in (1, 2) for b in (1, 2) for c in (1, 2) for d in (1, 2)]
        self.assertEqual(len(set(history_of(notary, row) for row in rows)), 16)
        for level in (0, 1, 5):
            row = row_for(level)
            plain = history_of(notary, row)
            for at in range(len(row)):
                self.assertNotEqual(history_of(notary, row[:at] + (5000,) + row[at + 1:]), plain)

    def test_wrong_lengths(self):
        notary = Notary()
        for count in (0, 3, 5, 6, 7, 9, 12, 15, 1000, 1023, 1025, 2048):
            with self.assertRaises(BadRow):
                history_of(notary, (3,) * count)
        self.assertEqual(notary.size(), 0)

    def test_wrong_numbers(self):
        notary = Notary()
        for bad in (0, -1, MAX_PART + 1, 2 ** 70, True, False, "", "a", "5", None, (), (5,)):
            for count in (1, 2, 8, 1024):
                for at in (0, count // 2, count - 1):
                    row = [3] * count
                    row[at] = bad
                    with self.assertRaises(BadRow):
                        history_of(notary, tuple(row))
        self.assertEqual(notary.size(), 0)


class OpeningTest(unittest.TestCase):
    def test_steps_and_joins(self):
        notary = Notary()
        step = notary.seal(("step", 9))
        join = notary.seal(("join", 1, 2, 3))
        self.assertEqual(opening(notary, step), ("step", 9))
        self.assertEqual(opening(notary, join), ("join", 1, 2, 3))
        self.assertEqual((last_of(notary, step), last_of(notary, join)), (9, 3))
        greatest = notary.seal(("join", MAX_PART, MAX_PART, MAX_PART))
        self.assertEqual(opening(notary, greatest), ("join", MAX_PART, MAX_PART, MAX_PART))
        self.assertEqual(last_of(notary, greatest), MAX_PART)

    def test_numbers_that_are_no_seal(self):
        notary = Notary()
        notary.seal(("step", 5))
        for number in (0, -1, -2, 2, 3, MAX_PART, MAX_PART + 1, 2 ** 70, -(2 ** 70)):
            self.assertIsNone(opening(notary, number))
            self.assertEqual(last_of(notary, number), 0)
        self.assertEqual(notary.size(), 1)

    def test_other_parts(self):
        notary = Notary()
        rows = (
            ("step", 0), ("step",), ("step", 1, 2), ("step", 1, 2, 3), ("step", "1"), ("step", ""), ("step", "step"),
            ("join", 0, 2, 3), ("join", 1, 0, 3), ("join", 1, 2, 0), ("join", "1", 2, 3), ("join", 1, "2", 3),
            ("join", 1, 2, "3"), ("join", 1, 2), ("join", 1, 2, 3, 4), ("join", 1), ("join",),
            ("pair", 1, 2), ("word", 5), ("behind", 1, 2), ("Step", 5), ("steps", 5), ("stop", 5), ("", 5), (5, 5),
            (1, 2, 3, 4), ("state", 1, 2, 3), ("pair", 1, 2, 3), ("", 1, 2, 3), ("step", 1, 2, 3), (5,),
        )
        for parts in rows:
            seal = notary.seal(parts)
            self.assertIsNone(opening(notary, seal), parts)
            self.assertEqual(last_of(notary, seal), 0, parts)

    def test_the_opening_of_every_history(self):
        notary = Notary()
        for level in LEVELS:
            row = row_for(level)
            history = history_of(notary, row)
            self.assertEqual(opening(notary, history), notary.parts_of(history))
            self.assertEqual(last_of(notary, history), row[-1])


class ShapeTest(unittest.TestCase):
    def test_right_shapes_at_each_level(self):
        for level in LEVELS:
            notary = Notary()
            history = history_of(notary, row_for(level))
            size = notary.size()
            for other in range(-1, 13):
                self.assertIs(is_shaped(notary, history, other), other == level, (level, other))
            self.assertEqual(notary.size(), size)

    def test_levels_that_are_none(self):
        notary = Notary()
        step = history_of(notary, (5,))
        pair = history_of(notary, (5, 6))
        great = history_of(notary, row_for(10))
        greater = notary.seal(("join", great, great, row_for(10)[-1]))
        for history in (step, pair, great, greater, 0):
            for level in NO_LEVELS:
                self.assertIs(is_shaped(notary, history, level), False)
        self.assertIs(is_shaped(notary, pair, 1), True)
        self.assertIs(is_shaped(notary, step, 0), True)

    def test_numbers_that_are_no_seal(self):
        notary = Notary()
        step = notary.seal(("step", 5))
        for level in LEVELS:
            for number in (0, -1, 999999, MAX_PART, MAX_PART + 1):
                self.assertIs(is_shaped(notary, number, level), False)
        for left, right in ((step, 999999), (999999, step), (999999, 999999)):
            self.assertIs(is_shaped(notary, notary.seal(("join", left, right, 5)), 1), False)

    def wrong_join(self, notary, level, at, wrong):
        """The history of the level, in which the part of level 1 that begins at `at` is `wrong`."""
        row = row_for(level)
        parts = [told_history(notary, row[n:n + 2]) for n in range(0, len(row), 2)]
        parts[at // 2] = wrong
        lasts = list(row[1::2])
        while len(parts) > 1:
            lasts = lasts[1::2]
            parts = [notary.seal(("join", parts[n], parts[n + 1], lasts[n // 2])) for n in range(0, len(parts), 2)]
        return parts[0]

    def test_a_wrong_part_at_every_place(self):
        for level in (1, 2, 3, 4):
            row = row_for(level)
            for at in range(0, len(row), 2):
                notary = Notary()
                mine, mate = (notary.seal(("step", number)) for number in row[at:at + 2])
                last = row[at + 1]
                self.assertIs(is_shaped(notary, self.wrong_join(
                    notary, level, at, notary.seal(("join", mine, mate, last))), level), True)
                wrongs = (
                    # A last state that is not that of the right half.
                    ("join", mine, mate, last + 1), ("join", mine, mate, row[at]),
                    # A step for a join, and a join for a step.
                    ("step", last), ("join", notary.seal(("join", mine, mate, last)), mate, last),
                    ("join", mine, notary.seal(("join", mine, mate, last)), last),
                    # Numbers that are no seals, and seals of other parts.
                    ("join", 999999, mate, last), ("join", mine, 999999, last),
                    ("join", notary.seal(("word", 5)), mate, last), ("join", mine, notary.seal(("stop", last)), last),
                    ("join", mine, mate, 0), ("pair", mine, mate, last), ("join", mine, mate),
                    ("join", notary.seal(("step", 0)), mate, last),
                )
                for parts in wrongs:
                    history = self.wrong_join(notary, level, at, notary.seal(parts))
                    self.assertIs(is_shaped(notary, history, level), False, (level, at, parts))
                    with self.assertRaises(BadRow):
                        row_of(notary, history, level)

    def test_wrong_last_states_above(self):
        notary = Notary()
        for level in range(1, 11):
            row = row_for(level)
            _, left, right, last = opening(notary, history_of(notary, row))
            for wrong in (last + 1, row[0], MAX_PART):
                history = notary.seal(("join", left, right, wrong))
                self.assertIs(is_shaped(notary, history, level), wrong == last, level)
        self.assertIs(is_shaped(notary, notary.seal(("join", left, right, last)), 10), True)

    def test_halves_of_other_levels(self):
        notary = Notary()
        histories = [history_of(notary, (5,) * 2 ** level) for level in range(5)]
        for one in range(5):
            for other in range(5):
                join = notary.seal(("join", histories[one], histories[other], 5))
                for level in range(7):
                    right = one == other == level - 1
                    self.assertIs(is_shaped(notary, join, level), right, (one, other, level))


class PartTest(unittest.TestCase):
    def test_each_level_and_place(self):
        notary = Notary()
        for level in (0, 1, 2, 3, 5):
            row = row_for(level)
            history = history_of(notary, row)
            for lower in range(level + 1):
                for place in range(0, 2 ** level, 2 ** lower):
                    told = told_history(notary, row[place:place + 2 ** lower])
                    self.assertEqual(part_at(notary, history, level, lower, place), told)

    def test_the_greatest_level(self):
        notary = Notary()
        row = tuple(range(1, 1025))
        history = history_of(notary, row)
        size = notary.size()
        for place in range(1024):
            part = part_at(notary, history, 10, 0, place)
            self.assertEqual(notary.parts_of(part), ("step", place + 1))
        for lower in LEVELS:
            for place in (0, 1024 - 2 ** lower):
                told = told_history(notary, row[place:place + 2 ** lower])
                self.assertEqual(part_at(notary, history, 10, lower, place), told)
        self.assertEqual(notary.size(), size)

    def test_equal_levels(self):
        notary = Notary()
        for level in LEVELS:
            for history in (0, -5, 1, 77, MAX_PART, MAX_PART + 1):
                self.assertEqual(part_at(notary, history, level, level, 0), history)

    def test_missing_openings_and_steps_on_the_way(self):
        notary = Notary()
        step = notary.seal(("step", 5))
        good = history_of(notary, (6, 7))
        for wrong in (999999, MAX_PART, step, notary.seal(("pair", 1, 2)), notary.seal(("join", good, good, 0))):
            left = notary.seal(("join", wrong, good, 7))
            right = notary.seal(("join", good, wrong, 7))
            for lower, place in ((0, 0), (0, 1)):
                self.assertEqual(part_at(notary, left, 2, lower, place), 0)
                self.assertEqual(part_at(notary, right, 2, lower, place + 2), 0)
                self.assertEqual(part_at(notary, left, 2, lower, place + 2), notary.find(("step", 6 + place)))
                self.assertEqual(part_at(notary, right, 2, lower, place), notary.find(("step", 6 + place)))
                self.assertEqual(part_at(notary, wrong, 1, lower, place), 0)
            # The part itself is not opened.
            self.assertEqual(part_at(notary, left, 2, 1, 0), wrong)
            self.assertEqual(part_at(notary, right, 2, 1, 2), wrong)
            for level in range(1, 11):
                for lower in range(level):
                    self.assertEqual(part_at(notary, wrong, level, lower, 0), 0)

    def test_a_shape_need_not_be_right(self):
        notary = Notary()
        join = notary.seal(("join", 111111, 222222, 5))
        self.assertEqual(part_at(notary, join, 1, 0, 0), 111111)
        self.assertEqual(part_at(notary, join, 10, 9, 512), 222222)

    def test_levels_that_are_not_there(self):
        notary = Notary()
        history = history_of(notary, row_for(3))
        rows = ((3, -1), (3, 4), (-1, -1), (-1, 0), (0, 1), (0, -1), (11, 0), (11, 11), (10, 11), (12, 3), (2 ** 48, 0))
        for level, lower in rows:
            with self.assertRaises(BadRow):
                part_at(notary, history, level, lower, 0)

    def test_places_that_are_not_there(self):
        notary = Notary()
        for level in LEVELS:
            history = history_of(notary, row_for(level))
            for lower in range(level + 1):
                size = 2 ** lower
                places = [-1, -size, -(2 ** level), 2 ** level, 2 ** level + size, 2 ** 48]
                if lower > 0:
                    places += [1, size - 1, size + 1, size // 2, 2 ** level - 1, 2 ** level - size // 2]
                for place in places:
                    with self.assertRaises(BadRow):
                        part_at(notary, history, level, lower, place)


class RowTest(unittest.TestCase):
    def test_every_level(self):
        notary = Notary()
        for level in LEVELS:
            row = row_for(level)
            history = history_of(notary, row)
            found = row_of(notary, history, level)
            self.assertIsInstance(found, tuple)
            self.assertEqual(found, row)

    def test_another_level(self):
        notary = Notary()
        for level in LEVELS:
            history = history_of(notary, row_for(level))
            for other in list(range(-1, 13)) + [True, False]:
                if other != level or isinstance(other, bool):
                    with self.assertRaises(BadRow):
                        row_of(notary, history, other)

    def test_numbers_that_are_no_history(self):
        notary = Notary()
        word = notary.seal(("word", 5))
        for number in (0, -1, 999, word, MAX_PART, MAX_PART + 1):
            for level in LEVELS:
                with self.assertRaises(BadRow):
                    row_of(notary, number, level)


class FirstDifferenceTest(unittest.TestCase):
    def test_equal_rows(self):
        notary = Notary()
        for level in LEVELS:
            history = history_of(notary, row_for(level))
            self.assertIsNone(first_difference(notary, history, history, level))

    def test_one_difference(self):
        notary = Notary()
        for level in LEVELS:
            row = row_for(level)
            one = history_of(notary, row)
            count = len(row)
            for at in sorted(set((0, 1, count // 2 - 1, count // 2, count - 2, count - 1))):
                if 0 <= at < count:
                    other = history_of(notary, row[:at] + (5000,) + row[at + 1:])
                    self.assertEqual(first_difference(notary, one, other, level), at)
                    self.assertEqual(first_difference(notary, other, one, level), at)

    def test_all_pairs_of_short_rows(self):
        notary = Notary()
        rows = [(a, b, c, d) for a in (1, 2) for b in (1, 2) for c in (1, 2) for d in (1, 2)]
        for one in rows:
            for other in rows:
                places = [at for at in range(4) if one[at] != other[at]]
                found = first_difference(notary, history_of(notary, one), history_of(notary, other), 2)
                self.assertEqual(found, places[0] if places else None)

    def test_several_differences(self):
        notary = Notary()
        row = row_for(10)
        one = history_of(notary, row)
        for places in ((0, 1023), (5, 6, 7), (511, 512), (512, 513), (300, 700, 1000), tuple(range(1024))):
            changed = list(row)
            for at in places:
                changed[at] = 5000
            other = history_of(notary, tuple(changed))
            self.assertEqual(first_difference(notary, one, other, 10), places[0])

    def test_wrong_shapes_on_either_side(self):
        notary = Notary()
        for level in (0, 1, 2, 5, 10):
            good = history_of(notary, row_for(level))
            wrongs = [0, -1, 999999, notary.seal(("word", 5)), notary.seal(("join", good, good, 7000))]
            wrongs.append(history_of(notary, row_for((level + 1) % 11)))
            for wrong in wrongs:
                for one, other in ((good, wrong), (wrong, good), (wrong, wrong)):
                    with self.assertRaises(BadRow):
                        first_difference(notary, one, other, level)
            for wrong_level in NO_LEVELS:
                with self.assertRaises(BadRow):
                    first_difference(notary, good, good, wrong_level)

    def test_a_wrong_shape_far_from_the_first_difference(self):
        notary = Notary()
        one, two, three = (history_of(notary, (number, number + 1)) for number in (10, 20, 30))
        good = notary.seal(("join", one, two, 21))
        bad = notary.seal(("join", three, two, 22))
        for pair in ((good, bad), (bad, good), (bad, bad)):
            with self.assertRaises(BadRow):
                first_difference(notary, pair[0], pair[1], 2)


class ExamplesTest(unittest.TestCase):
    def test_the_examples_of_the_document(self):
        notary = Notary()
        one = history_of(notary, (5, 6, 7, 8))
        other = history_of(notary, (5, 6, 9, 8))
        self.assertEqual((opening(notary, one)[0], opening(notary, one)[3]), ("join", 8))
        self.assertEqual(row_of(notary, one, 2), (5, 6, 7, 8))
        self.assertEqual(first_difference(notary, one, other, 2), 2)


if __name__ == "__main__":
    unittest.main()
