"""[0.5], [1.1] to [1.3] and the interface of onewatcher/seals.py."""

import unittest

from onewatcher.errors import BadParts
from onewatcher.seals import MAX_PART, WORD, Notary, is_parts, is_word

PRINTED = "".join(chr(code) for code in range(32, 127) if chr(code) != "\x25")

GOOD_PARTS = (
    (0,),
    ("",),
    ("a",),
    (MAX_PART,),
    (2 ** 48 - 1,),
    (" ",),
    ("~",),
    ("x" * 24,),
    (PRINTED[:24], PRINTED[24:48], PRINTED[48:72], PRINTED[72:]),
    (1, "a", 1),
    (0,) * 16,
    ("",) * 16,
)

# Each of these has one element that spoils parts.
BAD_ELEMENTS = (
    -1,
    MAX_PART + 1,
    2 ** 60,
    True,
    False,
    None,
    (),
    (1,),
    ("a",),
    ((1,), 2),
    "x" * 25,
    "a\n",
    "\n",
    "\t",
    "\x1f",
    "\x7f",
    "\xe4",
    "a\x00",
)

NO_TUPLES = (0, 1, -1, True, False, None, "", "a", "ab")


def nested(depth):
    value = ()
    for _ in range(depth):
        value = (value,)
    return value


class WordsTest(unittest.TestCase):
    def test_constants(self):
        self.assertEqual(WORD, 4294967296)
        self.assertEqual(MAX_PART, 281474976710656)
        self.assertEqual(MAX_PART, 2 ** 48)

    def test_words(self):
        for value in (0, 1, 2, 65535, 4294967294, 4294967295):
            self.assertIs(is_word(value), True, value)

    def test_integers_that_are_no_words(self):
        for value in (-1, -4294967296, 4294967296, 4294967297, 2 ** 48, 2 ** 64):
            self.assertIs(is_word(value), False, value)

    def test_other_values_are_no_words(self):
        for value in (True, False, None, "", "0", "1", (), (0,), ((0,),), nested(12)):
            self.assertIs(is_word(value), False, value)


class PartsTest(unittest.TestCase):
    def test_parts(self):
        for value in GOOD_PARTS:
            self.assertIs(is_parts(value), True, value)

    def test_every_printed_character(self):
        for sign in PRINTED:
            self.assertIs(is_parts((sign,)), True, sign)

    def test_every_length(self):
        self.assertEqual([n for n in range(40) if is_parts((1,) * n)], list(range(1, 17)))
        self.assertEqual([n for n in range(40) if is_parts(("x" * n,))], list(range(25)))

    def test_one_bad_element_at_any_place(self):
        for element in BAD_ELEMENTS:
            for value in ((element,), (element, 1), ("a", element), (1, element, "b"), (1,) * 15 + (element,)):
                self.assertIs(is_parts(value), False, value)

    def test_what_is_no_tuple(self):
        for value in NO_TUPLES:
            self.assertIs(is_parts(value), False, value)

    def test_nested_tuples(self):
        for depth in range(1, 13):
            self.assertIs(is_parts(nested(depth)), False, depth)
        self.assertIs(is_parts(((1, "a"),)), False)


class NotaryTest(unittest.TestCase):
    def test_first_sealing_gives_the_order(self):
        notary = Notary()
        self.assertEqual([notary.seal(parts) for parts in GOOD_PARTS], list(range(1, len(GOOD_PARTS) + 1)))

    def test_same_parts_have_the_same_seal(self):
        notary = Notary()
        self.assertEqual(notary.seal(("a", 1)), 1)
        self.assertEqual(notary.seal(("a", 2)), 2)
        self.assertEqual(notary.seal(("a", 1)), 1)
        self.assertEqual(notary.seal(("b",)), 3)
        self.assertEqual(notary.seal(tuple(["a", 2])), 2)
        self.assertEqual(notary.size(), 3)

    def test_different_parts_have_different_seals(self):
        notary = Notary()
        rows = (("a", 1), ("a", "1"), (1, "a"), ("a",), ("a", 1, 0), ("a1",), (0,), ("0",), ("",), (1,), (1, 1))
        self.assertEqual([notary.seal(parts) for parts in rows], list(range(1, 12)))
        self.assertEqual([notary.seal(parts) for parts in rows], list(range(1, 12)))

    def test_find_does_not_seal(self):
        notary = Notary()
        self.assertEqual(notary.find(("a", 1)), 0)
        self.assertEqual(notary.find(("a", 1)), 0)
        self.assertEqual(notary.size(), 0)
        self.assertIsNone(notary.parts_of(1))
        self.assertEqual(notary.seal(("b",)), 1)
        self.assertEqual(notary.seal(("a", 1)), 2)
        self.assertEqual(notary.find(("a", 1)), 2)
        self.assertEqual(notary.find(("b",)), 1)

    def test_find_of_what_is_no_parts(self):
        notary = Notary()
        for parts in ((1,), (0,), ("a", 1), ("a", 0), ("",)):
            notary.seal(parts)
        rows = [(element,) for element in BAD_ELEMENTS] + [("a", element) for element in BAD_ELEMENTS]
        rows = rows + list(NO_TUPLES) + [nested(depth) for depth in range(13)] + [(1,) * 17]
        for value in rows:
            self.assertEqual(notary.find(value), 0, value)
        self.assertEqual(notary.finds(), len(rows))
        self.assertEqual(notary.size(), 5)

    def test_parts_of(self):
        notary = Notary()
        for seal in (-1, 0, 1, 2):
            self.assertIsNone(notary.parts_of(seal))
        for parts in GOOD_PARTS:
            self.assertEqual(notary.parts_of(notary.seal(parts)), parts)
        for seal in (-len(GOOD_PARTS), -2, -1, 0, len(GOOD_PARTS) + 1, MAX_PART, MAX_PART + 1):
            self.assertIsNone(notary.parts_of(seal))
        self.assertEqual([notary.parts_of(n + 1) for n in range(len(GOOD_PARTS))], list(GOOD_PARTS))
        self.assertEqual(notary.size(), len(GOOD_PARTS))

    def test_size_counts_seals_that_were_given(self):
        notary = Notary()
        self.assertEqual(notary.size(), 0)
        sizes = []
        for parts in (("a",), ("b",), ("a",), ("c",), ("c",)):
            notary.seal(parts)
            sizes.append(notary.size())
        self.assertEqual(sizes, [1, 2, 2, 3, 3])

    def test_finds_counts_find_alone(self):
        notary = Notary()
        self.assertEqual(notary.finds(), 0)
        notary.seal(("a",))
        notary.parts_of(1)
        notary.size()
        notary.finds()
        self.assertEqual(notary.finds(), 0)
        counts = []
        for value in (("a",), ("b",), ("a",), (), None, (True,)):
            notary.find(value)
            counts.append(notary.finds())
        self.assertEqual(counts, [1, 2, 3, 4, 5, 6])

    def test_a_tuple_that_is_no_parts_is_refused(self):
        notary = Notary()
        notary.seal((1,))
        rows = [(element,) for element in BAD_ELEMENTS] + [("a", element, 2) for element in BAD_ELEMENTS]
        for value in rows + [(), (1,) * 17, nested(12)]:
            with self.assertRaises(BadParts):
                notary.seal(value)
            self.assertEqual((notary.size(), notary.finds()), (1, 0))
        self.assertEqual(notary.seal(("next",)), 2)

    def test_two_notaries(self):
        one = Notary()
        other = Notary()
        one.seal(("a",))
        one.seal(("b",))
        one.find(("b",))
        self.assertEqual((other.size(), other.finds(), other.find(("b",))), (0, 0, 0))
        self.assertEqual(other.seal(("b",)), 1)
        self.assertEqual((one.find(("b",)), one.finds(), one.size()), (2, 2, 2))
        self.assertEqual((one.parts_of(1), other.parts_of(1), other.parts_of(2)), (("a",), ("b",), None))


if __name__ == "__main__":
    unittest.main()
