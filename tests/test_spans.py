"""[6.1] to [6.5]: spans, their halves and rivals."""

import unittest

from arenas import nested, replaced, seal_row
from onewatcher.histories import history_of, opening
from onewatcher.machine import first_state
from onewatcher.seals import MAX_PART, Notary
from onewatcher.spans import are_rivals, halves_of, is_reached, is_span, root_span
from onewatcher.states import question

SPAN = (3, 8, 5, 6, 7)


class FormTest(unittest.TestCase):
    def test_bounds_of_each_element(self):
        bounds = ((0, 10), (0, 1023), (0, MAX_PART), (1, MAX_PART), (1, MAX_PART))
        for at, (least, most) in enumerate(bounds):
            for value in (-MAX_PART, -1, 0, 1, 2, 9, 10, 11, 1022, 1023, 1024, MAX_PART - 1, MAX_PART, MAX_PART + 1):
                self.assertIs(is_span(replaced(SPAN, at, value)), least <= value <= most, (at, value))

    def test_each_element_of_another_kind(self):
        for at in range(5):
            for value in (True, False, None, "", "1", "step", (), (1,), (0, 1), nested(10)):
                self.assertIs(is_span(replaced(SPAN, at, value)), False, (at, value))

    def test_the_number_of_elements(self):
        for value in ((), SPAN[:4], SPAN[1:], SPAN + (1,), (SPAN,), (1,), (1,) * 4, (1,) * 6):
            self.assertIs(is_span(value), False)
        self.assertIs(is_span((1,) * 5), True)

    def test_a_first_step_need_not_fit_the_level(self):
        self.assertIs(is_span((10, 1023, 0, 1, 1)), True)
        self.assertIs(is_span((3, 5, 0, 1, 1)), True)

    def test_any_value(self):
        for value in (0, 5, True, False, None, "", "span", "12345", nested(12), ("",) * 5, (None,) * 5, ((),) * 5):
            self.assertIs(is_span(value), False, value)


class RootTest(unittest.TestCase):
    def test_root_span(self):
        notary = Notary()
        for level in range(11):
            asked = question(notary, (("stop",),), (), first_state(), level)
            for history in (1, 77, MAX_PART):
                self.assertEqual(root_span(asked, history), (level, 0, 0, asked[4], history))
        self.assertEqual(root_span((11, 12, 13, 14, 15, 6), 17), (6, 0, 0, 15, 17))


class HalvesTest(unittest.TestCase):
    def setUp(self):
        self.notary = Notary()

    def halves(self, span):
        """The halves; nothing is sealed."""
        size = self.notary.size()
        found = halves_of(self.notary, span)
        self.assertEqual(self.notary.size(), size)
        return found

    def test_the_halves_of_each_level(self):
        for level in range(1, 11):
            row = tuple(range(20, 20 + 2 ** level))
            history = history_of(self.notary, row)
            _, left, right, _ = opening(self.notary, history)
            middle = row[len(row) // 2 - 1]
            for first, before in ((0, 0), (2 ** level, 5), (0, 9)):
                behind = self.notary.seal(("behind", before, left))
                found = self.halves((level, first, before, 400, history))
                self.assertIsInstance(found, tuple)
                self.assertEqual(found, ((level - 1, first, before, 400, left),
                                         (level - 1, first + 2 ** (level - 1), behind, middle, right)))

    def test_the_whole_way_down(self):
        row = tuple(range(20, 36))
        history = seal_row(self.notary, None, row)
        spans = [(4, 0, 0, 19, history)]
        for level in range(3, -1, -1):
            spans = [half for span in spans for half in self.halves(span)]
            self.assertEqual([span[0] for span in spans], [level] * len(spans))
            self.assertEqual([span[1] for span in spans], list(range(0, 16, 2 ** level)))
            self.assertEqual([span[3] for span in spans], list(range(19, 35, 2 ** level)))
        self.assertEqual([self.notary.parts_of(span[4]) for span in spans], [("step", n) for n in row])
        for span in spans:
            self.assertIsNone(self.halves(span))
        befores = [span[2] for span in spans]
        self.assertEqual(befores[0], 0)
        self.assertEqual(len(set(befores)), 16)

    def test_a_history_that_does_not_open(self):
        for history in (999999, MAX_PART, 1, self.notary.seal(("pair", 1, 2)), self.notary.seal(("join", 0, 2, 3))):
            self.notary.seal(("behind", 0, 2))
            self.assertIsNone(self.halves((2, 0, 0, 5, history)))

    def test_a_history_that_opens_as_a_step(self):
        history = self.notary.seal(("step", 8))
        self.notary.seal(("behind", 0, 8))
        for level in (0, 1, 10):
            self.assertIsNone(self.halves((level, 0, 0, 5, history)))

    def test_a_left_part_that_does_not_open(self):
        right = self.notary.seal(("step", 8))
        for left in (999999, MAX_PART, self.notary.seal(("word", 3)), self.notary.seal(("step", 0))):
            self.notary.seal(("behind", 0, left))
            join = self.notary.seal(("join", left, right, 8))
            self.assertIsNone(self.halves((1, 0, 0, 5, join)))

    def test_a_right_part_need_not_open(self):
        left = self.notary.seal(("step", 8))
        behind = self.notary.seal(("behind", 0, left))
        join = self.notary.seal(("join", left, 999999, 4))
        self.assertEqual(self.halves((1, 0, 0, 5, join)), ((0, 0, 0, 5, left), (0, 1, behind, 8, 999999)))

    def test_a_left_part_of_another_shape(self):
        left = history_of(self.notary, (6, 7, 8, 9))
        behind = self.notary.seal(("behind", 3, left))
        join = self.notary.seal(("join", left, left, 4))
        self.assertEqual(self.halves((1, 4, 3, 5, join)), ((0, 4, 3, 5, left), (0, 5, behind, 9, left)))

    def test_no_seal_of_what_is_behind(self):
        history = history_of(self.notary, (8, 9))
        left = opening(self.notary, history)[1]
        self.assertIsNone(self.halves((1, 0, 0, 5, history)))
        self.notary.seal(("behind", 1, left))
        self.notary.seal(("behind", 0, left + 1))
        self.assertIsNone(self.halves((1, 0, 0, 5, history)))
        behind = self.notary.seal(("behind", 0, left))
        self.assertEqual(self.halves((1, 0, 0, 5, history))[1][2], behind)

    def test_level_0(self):
        history = seal_row(self.notary, None, (8, 9))
        self.assertIsNotNone(self.halves((1, 0, 0, 5, history)))
        self.assertIsNone(self.halves((0, 0, 0, 5, history)))


class RivalsTest(unittest.TestCase):
    def test_equal_spans(self):
        self.assertIs(are_rivals(SPAN, SPAN), False)
        self.assertIs(are_rivals(SPAN, tuple(list(SPAN))), False)

    def test_spans_that_differ_in_the_history_alone(self):
        for history in (1, 6, 8, MAX_PART):
            self.assertIs(are_rivals(SPAN, replaced(SPAN, 4, history)), True)
            self.assertIs(are_rivals(replaced(SPAN, 4, history), SPAN), True)

    def test_spans_that_differ_in_anything_else(self):
        for at in range(4):
            other = replaced(SPAN, at, SPAN[at] + 1)
            self.assertIs(are_rivals(SPAN, other), False)
            self.assertIs(are_rivals(SPAN, replaced(other, 4, 99)), False)
            self.assertIs(are_rivals(replaced(other, 4, 99), SPAN), False)
        self.assertIs(are_rivals(SPAN, (4, 9, 6, 7, 8)), False)


class ReachedTest(unittest.TestCase):
    """What a showing says, for spans that no arena would have posted ([6.16])."""

    def setUp(self):
        self.notary = Notary()
        self.history = history_of(self.notary, (7,) * 8)
        self.half = opening(self.notary, self.history)[1]
        self.quarter = opening(self.notary, self.half)[1]
        self.top = (3, 0, 0, 5, self.history)
        self.joins = (opening(self.notary, self.history), opening(self.notary, self.half))

    def reached(self, *span):
        size, finds = self.notary.size(), self.notary.finds()
        found = is_reached(self.notary, self.top, self.joins, span)
        self.assertEqual(self.notary.size(), size)
        self.assertLessEqual(self.notary.finds(), finds + 24)
        return found

    def test_each_part(self):
        middle = self.notary.seal(("behind", 0, self.half))
        quarter = self.notary.seal(("behind", 0, self.quarter))
        last = self.notary.seal(("behind", middle, self.quarter))
        befores = {0: 0, 2: quarter, 4: middle, 6: last}
        for first, before in befores.items():
            self.assertIs(self.reached(1, first, before, 7, self.quarter), True)
            # The start is not compared; all else is.
            self.assertIs(self.reached(1, first, before, 8, self.quarter), True)
            self.assertIs(self.reached(1, first + 1, before, 7, self.quarter), False)
            self.assertIs(self.reached(1, first + 8, before, 7, self.quarter), False)
            self.assertIs(self.reached(1, first, before, 7, self.quarter + 1), False)
            for level in (0, 2, 3, 4, 10):
                self.assertIs(self.reached(level, first, before, 7, self.quarter), False)
            for other in list(befores.values()) + [999999]:
                self.assertIs(self.reached(1, first, other, 7, self.quarter), other == before)

    def test_a_missing_seal_does_not_lead_on(self):
        self.assertIs(self.reached(1, 4, 0, 7, self.quarter), False)
        wrong = self.notary.seal(("behind", 0, self.quarter))
        self.assertIs(self.reached(1, 6, wrong, 7, self.quarter), False)
        self.assertIs(self.reached(1, 2, wrong, 7, self.quarter), True)


if __name__ == "__main__":
    unittest.main()
