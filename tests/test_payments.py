"""[7.4]: what a question pays."""

import unittest

from onewatcher.bridge import payments

MEMBERS = ("ann", "bob", "cat")
ENTRIES = ((1, 30, 7), (0, 5, 0), (1, 2, 9))


def pay(rest, words, status=1, entries=ENTRIES):
    return payments(MEMBERS, rest, entries, status, words)


class PaymentsTest(unittest.TestCase):
    def test_pairs(self):
        self.assertEqual(pay(3, (2, 10, 0, 1)), ((("cat", 10), ("ann", 1)), 29))
        self.assertEqual(pay(0, (1, 30, 0, 5, 1, 2)), ((("bob", 30), ("ann", 5), ("bob", 2)), 0))

    def test_no_words(self):
        self.assertEqual(pay(3, ()), ((), 40))

    def test_amounts_up_to_the_pot_and_above(self):
        for amount in (0, 1, 39, 40):
            self.assertEqual(pay(3, (0, amount)), ((("ann", amount),), 40 - amount))
        for amount in (41, 42, 4294967295):
            self.assertEqual(pay(3, (0, amount)), ((("ann", 40),), 0))

    def test_what_is_left_of_the_pot(self):
        self.assertEqual(pay(3, (0, 39, 1, 1, 2, 1)), ((("ann", 39), ("bob", 1), ("cat", 0)), 0))
        self.assertEqual(pay(3, (0, 39, 1, 2)), ((("ann", 39), ("bob", 1)), 0))
        self.assertEqual(pay(3, (0, 38, 1, 1)), ((("ann", 38), ("bob", 1)), 1))
        self.assertEqual(pay(3, (2, 41, 2, 0, 2, 5)), ((("cat", 40), ("cat", 0), ("cat", 0)), 0))

    def test_the_same_member_twice(self):
        self.assertEqual(pay(3, (1, 7, 1, 7, 1, 7)), ((("bob", 7), ("bob", 7), ("bob", 7)), 19))

    def test_numbers_that_no_member_has(self):
        self.assertEqual(pay(3, (3, 10, 2, 4)), ((("cat", 4),), 36))
        self.assertEqual(pay(3, (3, 40, 4294967295, 1)), ((), 40))

    def test_other_statuses(self):
        back = (("bob", 30), ("ann", 5), ("bob", 2))
        for status in (0, 2, 3, 2 ** 48):
            self.assertEqual(pay(3, (2, 10), status), (back, 3))
            self.assertEqual(pay(0, (), status), (back, 0))

    def test_an_odd_number_of_words(self):
        back = (("bob", 30), ("ann", 5), ("bob", 2))
        for words in ((0,), (2, 10, 0), (0,) * 1023):
            self.assertEqual(pay(3, words), (back, 3))

    def test_what_is_paid_and_the_rest_are_what_there_was(self):
        number = 7
        for _ in range(300):
            words = []
            for _ in range(number % 9):
                number = (number * 1103515245 + 12345) % 2 ** 31
                words.append(number // 4096 % (5, 25)[len(words) % 2])
            number = (number * 1103515245 + 12345) % 2 ** 31
            rest, status = number // 65536 % 30, number // 64 % 3
            paid, left = pay(rest, tuple(words), status)
            self.assertEqual(sum(amount for _, amount in paid) + left, rest + 37)
            self.assertGreaterEqual(left, 0)
            if status != 1 or len(words) % 2:
                self.assertEqual(left, rest)


if __name__ == "__main__":
    unittest.main()
