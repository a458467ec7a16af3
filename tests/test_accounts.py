"""[5.1]: accounts."""

import unittest

from onewatcher.accounts import Accounts


class AccountsTest(unittest.TestCase):
    def setUp(self):
        self.accounts = Accounts({"ann": 5, "bob": 7, "cat": 0})

    def check(self, ann, bob, cat, **others):
        told = dict(others, ann=ann, bob=bob, cat=cat)
        for name, amount in told.items():
            self.assertEqual(self.accounts.amount(name), amount, name)
        self.assertEqual(self.accounts.total(), sum(told.values()))
        self.assertEqual(self.accounts.names(), sorted(name for name in told if told[name] > 0))

    def test_amounts(self):
        self.check(5, 7, 0)
        self.assertEqual(self.accounts.amount("dan"), 0)
        self.assertEqual(self.accounts.amount(""), 0)
        # Asking does not make an account.
        self.assertEqual(self.accounts.names(), ["ann", "bob"])

    def test_no_accounts(self):
        self.accounts = Accounts({})
        self.assertEqual((self.accounts.total(), self.accounts.names(), self.accounts.amount("ann")), (0, [], 0))
        self.assertIs(self.accounts.move("ann", "bob", 0), True)
        self.assertIs(self.accounts.move("ann", "bob", 1), False)
        self.assertEqual((self.accounts.total(), self.accounts.names()), (0, []))

    def test_a_move(self):
        self.assertIs(self.accounts.move("ann", "bob", 2), True)
        self.check(3, 9, 0)
        self.assertIs(self.accounts.move("bob", "cat", 9), True)
        self.check(3, 0, 9)

    def test_amounts_at_the_bounds(self):
        for amount in (-1, -5, -(2 ** 70), 6, 7, 2 ** 70):
            self.assertIs(self.accounts.move("ann", "bob", amount), False)
            self.check(5, 7, 0)
        self.assertIs(self.accounts.move("ann", "bob", 0), True)
        self.check(5, 7, 0)
        self.assertIs(self.accounts.move("ann", "bob", 5), True)
        self.check(0, 12, 0)
        self.assertIs(self.accounts.move("ann", "bob", 1), False)
        self.check(0, 12, 0)

    def test_names_that_were_never_used(self):
        self.assertIs(self.accounts.move("dan", "ann", 1), False)
        self.assertIs(self.accounts.move("dan", "ann", -1), False)
        self.assertIs(self.accounts.move("dan", "eve", 0), True)
        self.check(5, 7, 0, dan=0, eve=0)
        self.assertIs(self.accounts.move("ann", "dan", 5), True)
        self.check(0, 7, 0, dan=5)
        self.assertIs(self.accounts.move("bob", "eve", 8), False)
        self.check(0, 7, 0, dan=5, eve=0)

    def test_from_a_name_to_itself(self):
        for amount, told in ((0, True), (1, True), (5, True), (6, False), (-1, False)):
            self.assertIs(self.accounts.move("ann", "ann", amount), told)
            self.check(5, 7, 0)
        self.assertIs(self.accounts.move("dan", "dan", 0), True)
        self.assertIs(self.accounts.move("dan", "dan", 1), False)
        self.check(5, 7, 0, dan=0)

    def test_names_ascend(self):
        accounts = Accounts({"zoe": 1, "b": 2, "a10": 3, "a2": 4, "bb": 0, "ann": 6})
        self.assertEqual(accounts.names(), ["a10", "a2", "ann", "b", "zoe"])
        accounts.move("zoe", "bb", 1)
        self.assertEqual(accounts.names(), ["a10", "a2", "ann", "b", "bb"])

    def test_great_amounts(self):
        accounts = Accounts({"ann": 10 ** 40})
        self.assertIs(accounts.move("ann", "bob", 10 ** 40 - 1), True)
        self.assertEqual((accounts.amount("ann"), accounts.amount("bob"), accounts.total()),
                         (1, 10 ** 40 - 1, 10 ** 40))

    def test_copy(self):
        other = self.accounts.copy()
        self.assertIsInstance(other, Accounts)
        self.assertIs(other.move("ann", "bob", 5), True)
        self.check(5, 7, 0)
        self.assertEqual((other.amount("ann"), other.amount("bob")), (0, 12))
        self.accounts.move("bob", "dan", 7)
        self.assertEqual(other.amount("bob"), 12)
        self.assertEqual(other.amount("dan"), 0)

    def test_the_dict_that_was_given(self):
        given = {"ann": 5}
        accounts = Accounts(given)
        given["ann"] = 9
        given["bob"] = 1
        self.assertEqual((accounts.amount("ann"), accounts.amount("bob"), accounts.total()), (5, 0, 5))
        accounts.move("ann", "cat", 5)
        self.assertEqual(given, {"ann": 9, "bob": 1})

    def test_the_list_that_is_returned(self):
        self.accounts.names().append("dan")
        self.accounts.names().clear()
        self.assertEqual(self.accounts.names(), ["ann", "bob"])


if __name__ == "__main__":
    unittest.main()
