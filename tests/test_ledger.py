"""[5.2] to [5.8]: the ledger."""

import unittest

from onewatcher.accounts import Accounts
from onewatcher.ledger import Ledger

AMOUNTS = {"ann": 50, "bob": 3}


class Book:
    """A contract of the test's own: it keeps all deeds, and moves money for some."""

    def __init__(self, rows=()):
        self.rows = list(rows)

    def copy(self):
        return Book(self.rows)

    def apply(self, sender, deed, height, accounts):
        moved = None
        if isinstance(deed, tuple) and len(deed) == 3 and deed[0] == "move":
            moved = accounts.move(sender, deed[1], deed[2])
        self.rows.append((sender, deed, height))
        return "{}.{}.{}".format(len(self.rows), height, moved)


class Model:
    """The ledger by the words of the document, slowly: everything is worked out from the letters."""

    def __init__(self, patience):
        self.patience = patience
        self.letters = []
        self.dues = {}
        self.blocks = []

    def send(self, sender, deed):
        number = len(self.letters) + 1
        self.letters.append((number, sender, deed))
        self.dues[number] = len(self.blocks) + self.patience
        return number

    def pool(self):
        stood = [letter for block in self.blocks for letter in block]
        return [letter for letter in self.letters if letter not in stood]

    def add_block(self, chosen):
        pool = dict((letter[0], letter) for letter in self.pool())
        block = []
        for number in chosen:
            if number in pool:
                block.append(pool.pop(number))
        height = len(self.blocks) + 1
        block += [pool[number] for number in sorted(pool) if self.dues[number] <= height]
        self.blocks.append(tuple(block))

    def turn_back(self, count):
        self.blocks = self.blocks[:len(self.blocks) - count]
        for number, _, _ in self.pool():
            self.dues[number] = min(self.dues[number], len(self.blocks) + self.patience)

    def state(self):
        book, accounts = Book(), Accounts(AMOUNTS)
        answers = []
        for height, block in enumerate(self.blocks, start=1):
            answers.append(tuple(book.apply(sender, deed, height, accounts) for _, sender, deed in block))
        return book, accounts, answers


class LedgerTest(unittest.TestCase):
    def setUp(self):
        self.begin(2)

    def begin(self, patience):
        self.ledger = Ledger(Book(), Accounts(AMOUNTS), patience)
        self.model = Model(patience)

    def check(self):
        """The ledger is as the model says, and what [5.8] says holds."""
        ledger, model = self.ledger, self.model
        head = len(model.blocks)
        self.assertEqual(ledger.head(), head)
        self.assertEqual(ledger.patience(), model.patience)
        self.assertEqual(ledger.blocks(), model.blocks)
        self.assertEqual(ledger.pool(), [(letter, model.dues[letter[0]]) for letter in model.pool()])
        book, accounts, answers = model.state()
        self.assertEqual([ledger.answers(height) for height in range(1, head + 1)], answers)
        for height in (0, -1, -head, head + 1, head + 2):
            self.assertEqual(ledger.answers(height), None if not 1 <= height <= head else answers[height - 1])
        self.assertEqual(ledger.contract().rows, book.rows)
        found = ledger.accounts()
        self.assertEqual(found.names(), accounts.names())
        for name in ("ann", "bob", "cat"):
            self.assertEqual(found.amount(name), accounts.amount(name))
        self.assertEqual(found.total(), 53)
        for letter, due in ledger.pool():
            self.assertLess(head, due)
            self.assertLessEqual(due, head + model.patience)
        for height, block in enumerate(ledger.blocks(), start=1):
            for letter in block:
                self.assertGreaterEqual(model.dues[letter[0]], height)
        numbers = [letter[0] for block in ledger.blocks() for letter in block]
        numbers += [letter[0] for letter, _ in ledger.pool()]
        self.assertEqual(sorted(numbers), list(range(1, len(model.letters) + 1)))

    def send(self, sender, *deed):
        number = self.ledger.send(sender, deed)
        self.assertEqual(number, self.model.send(sender, deed))
        self.check()
        return number

    def add_block(self, *chosen):
        answers = self.ledger.add_block(chosen)
        self.model.add_block(chosen)
        self.assertIsInstance(answers, tuple)
        self.assertEqual(answers, self.ledger.answers(self.ledger.head()))
        self.check()
        return answers

    def turn_back(self, count):
        self.assertIs(self.ledger.turn_back(count), True)
        self.model.turn_back(count)
        self.check()

    def numbers(self):
        return [tuple(letter[0] for letter in block) for block in self.ledger.blocks()]

    def dues(self):
        return [(letter[0], due) for letter, due in self.ledger.pool()]

    def test_a_new_ledger(self):
        self.check()
        self.assertEqual((self.ledger.head(), self.ledger.patience()), (0, 2))
        self.assertEqual((self.ledger.blocks(), self.ledger.pool()), ([], []))
        self.assertIsNone(self.ledger.answers(0))
        self.assertIsNone(self.ledger.answers(1))

    def test_numbers_of_letters(self):
        self.assertEqual([self.send("ann", n) for n in range(5)], [1, 2, 3, 4, 5])
        self.add_block(2, 4)
        self.assertEqual(self.send("bob", 9), 6)
        self.turn_back(1)
        self.assertEqual(self.send("bob", 9), 7)
        self.assertEqual([number for number, _ in self.dues()], [1, 2, 3, 4, 5, 6, 7])

    def test_a_block_with_chosen_letters_in_the_given_order(self):
        for n in range(6):
            self.send("ann", n)
        self.add_block(5, 2, 4)
        self.assertEqual(self.numbers(), [(5, 2, 4)])
        self.assertEqual(self.dues(), [(1, 2), (3, 2), (6, 2)])
        self.add_block(6)
        self.assertEqual(self.numbers()[1], (6, 1, 3))
        self.assertEqual(self.dues(), [])

    def test_numbers_that_are_unknown_used_already_or_stand_twice(self):
        for n in range(4):
            self.send("ann", n)
        self.add_block(3, 3, 99, 0, -1, 1, 3, 1)
        self.assertEqual(self.numbers(), [(3, 1)])
        self.send("bob", 7)
        self.add_block(3, 5, 1, 5, 6)
        self.assertEqual(self.numbers()[1], (5, 2, 4))
        self.add_block(1, 2, 3, 4, 5)
        self.assertEqual(self.numbers()[2], ())

    def test_blocks_without_letters(self):
        self.assertEqual(self.add_block(), ())
        self.assertEqual(self.add_block(), ())
        self.assertEqual(self.ledger.blocks(), [(), ()])
        self.assertEqual((self.ledger.answers(1), self.ledger.answers(2)), ((), ()))
        self.send("ann", "x")
        self.assertEqual(self.add_block(), ())
        self.assertEqual(self.add_block(), ("1.4.None",))

    def test_due_heights(self):
        for patience in (1, 2, 3, 7):
            self.begin(patience)
            for head in range(5):
                self.send("ann", head)
                self.assertEqual(self.dues()[-1], (head + 1, head + patience))
                self.add_block()
            for _ in range(patience):
                self.add_block()
            told = [()] * (patience - 1) + [(n,) for n in range(1, 6)] + [()]
            self.assertEqual(self.numbers(), told)

    def test_due_letters_in_the_order_of_their_numbers(self):
        self.begin(3)
        self.send("ann", 1)
        self.send("bob", 2)
        self.add_block()
        self.send("ann", 3)
        self.add_block()
        # Turning back makes the letters 1, 2 and 3 due at one height.
        self.turn_back(2)
        self.assertEqual(self.dues(), [(1, 3), (2, 3), (3, 3)])
        self.send("ann", 4)
        self.add_block()
        self.add_block()
        self.add_block(4)
        self.assertEqual(self.numbers()[2], (4, 1, 2, 3))

    def test_answers_and_states(self):
        self.send("ann", "move", "bob", 20)
        self.send("bob", "move", "cat", 23)
        self.send("cat", "move", "ann", 24)
        self.send("cat", "move", "ann", 1)
        self.assertEqual(self.add_block(2, 1), ("1.1.False", "2.1.True"))
        self.assertEqual(self.ledger.accounts().amount("bob"), 23)
        self.assertEqual(self.add_block(4), ("3.2.False", "4.2.False"))
        self.send("bob", "move", "cat", 23)
        self.assertEqual(self.add_block(5), ("5.3.True",))
        self.assertEqual(self.ledger.answers(1), ("1.1.False", "2.1.True"))
        self.assertEqual(self.ledger.contract().rows[1], ("ann", ("move", "bob", 20), 1))
        self.assertEqual([row[2] for row in self.ledger.contract().rows], [1, 1, 2, 2, 3])

    def test_the_state_behind_each_block(self):
        self.begin(4)
        for n in range(12):
            self.send(("ann", "bob")[n % 2], "move", ("bob", "cat", "ann")[n % 3], n)
        states = []
        for n in range(4):
            states.append((self.ledger.contract().rows, self.ledger.accounts().names()))
            self.add_block(3 * n + 2, 3 * n + 1)
        for n in reversed(range(4)):
            self.turn_back(1)
            self.assertEqual((self.ledger.contract().rows, self.ledger.accounts().names()), states[n])

    def test_any_deed(self):
        for deed in ((), (1,), ("a", None, True), ((((((),),),),),), ("move",), (None,) * 20):
            self.send("ann", *deed)
        self.add_block(4, 2)
        self.add_block()

    def test_what_was_given_does_not_change(self):
        book, accounts = Book([("old", 0, 0)]), Accounts(AMOUNTS)
        ledger = Ledger(book, accounts, 1)
        ledger.send("ann", ("move", "bob", 5))
        ledger.add_block(())
        self.assertEqual(book.rows, [("old", 0, 0)])
        self.assertEqual(accounts.amount("ann"), 50)
        book.rows.append("later")
        accounts.move("ann", "cat", 50)
        self.assertEqual(ledger.contract().rows, [("old", 0, 0), ("ann", ("move", "bob", 5), 1)])
        self.assertEqual(ledger.accounts().amount("ann"), 45)
        ledger.turn_back(1)
        self.assertEqual(ledger.contract().rows, [("old", 0, 0)])
        self.assertEqual(ledger.accounts().amount("ann"), 50)

    def test_what_is_returned_is_a_copy(self):
        self.send("ann", "move", "bob", 5)
        self.send("ann", "x")
        self.add_block(1)
        self.add_block()
        for _ in range(2):
            self.ledger.contract().rows.append("later")
            self.ledger.contract().rows.clear()
            self.ledger.accounts().move("ann", "bob", 40)
            self.ledger.blocks().append(((9, "ann", ()),))
            self.ledger.blocks().clear()
            self.ledger.pool().append(((9, "ann", ()), 3))
            self.check()
            self.turn_back(1)
            self.ledger.pool().clear()
            self.check()
            self.add_block()
        self.ledger.contract().apply("ann", ("move", "bob", 5), 9, self.ledger.accounts())
        self.check()

    def test_a_contract_of_empty_blocks_is_a_copy_too(self):
        self.add_block()
        held = self.ledger.contract()
        held.apply("ann", (), 1, self.ledger.accounts())
        self.add_block()
        self.assertEqual(self.ledger.contract().rows, [])
        self.send("ann", "x")
        self.add_block(1)
        self.turn_back(1)
        self.assertEqual(self.ledger.contract().rows, [])

    def test_turn_back_of_no_block(self):
        self.turn_back(0)
        self.send("ann", "x")
        self.turn_back(0)
        self.add_block()
        self.send("ann", "y")
        self.turn_back(0)
        self.assertEqual(self.dues(), [(1, 2), (2, 3)])

    def test_turn_back_of_too_many(self):
        for n in range(3):
            for count in (n + 1, n + 2, -1, -n - 1, 2 ** 48):
                self.assertIs(self.ledger.turn_back(count), False)
                self.check()
            self.send("ann", n)
            self.add_block()
        self.assertIs(self.ledger.turn_back(4), False)
        self.check()

    def test_turn_back_of_one_and_of_all(self):
        self.begin(5)
        for n in range(6):
            self.send("ann", "move", "bob", n)
            self.add_block(n - 1)
        self.turn_back(1)
        self.turn_back(2)
        self.assertEqual(self.ledger.head(), 3)
        self.turn_back(3)
        self.assertEqual(self.ledger.head(), 0)
        self.assertEqual(self.dues(), [(n, 5) for n in range(1, 7)])
        self.assertEqual(self.ledger.contract().rows, [])
        self.assertEqual(self.ledger.accounts().amount("ann"), 50)

    def test_due_heights_behind_turning_back(self):
        self.begin(4)
        self.send("ann", 1)
        for _ in range(3):
            self.add_block()
        self.send("ann", 2)
        self.assertEqual(self.dues(), [(1, 4), (2, 7)])
        self.turn_back(1)
        self.assertEqual(self.dues(), [(1, 4), (2, 6)])
        self.turn_back(2)
        self.assertEqual(self.dues(), [(1, 4), (2, 4)])
        self.add_block(2)
        self.assertEqual(self.dues(), [(1, 4)])
        self.turn_back(1)
        self.assertEqual(self.dues(), [(1, 4), (2, 4)])
        # A letter that is taken back keeps a lower due height, and a later one gets its own.
        self.add_block()
        self.send("ann", 3)
        self.assertEqual(self.dues(), [(1, 4), (2, 4), (3, 5)])
        for _ in range(3):
            self.add_block()
        self.assertEqual(self.numbers(), [(), (), (), (1, 2)])
        self.turn_back(1)
        self.assertEqual(self.dues(), [(1, 4), (2, 4), (3, 5)])

    def test_letters_of_the_same_words(self):
        self.send("ann", "x")
        self.send("ann", "x")
        self.add_block(2)
        self.assertEqual(self.numbers(), [(2,)])
        self.turn_back(1)
        self.add_block(1)
        self.assertEqual(self.numbers(), [(1,)])
        self.add_block()
        self.assertEqual(self.numbers(), [(1,), (2,)])

    def test_many_ways(self):
        for seed in range(40):
            self.begin(1 + seed % 5)
            number = seed * 7919 + 1
            for _ in range(60):
                number = (number * 1103515245 + 12345) % 2 ** 31
                what = number // 65536 % 10
                size = number // 1048576 % 7
                if what < 4:
                    self.send(("ann", "bob", "cat")[size % 3], "move", ("bob", "cat", "ann")[what % 3], size * 2)
                elif what < 8:
                    self.add_block(*(number // 8 ** k % 24 for k in range(size)))
                else:
                    self.turn_back(min(size, self.ledger.head()))

    def test_the_promise_of_the_patience(self):
        # A letter in the pool at the head h stands at h + patience or lower as soon as the head is there.
        for patience in (1, 2, 3):
            for backs in range(6):
                self.begin(patience)
                for _ in range(4):
                    self.add_block()
                number = self.send("ann", "x")
                self.add_block(*([number] * (backs % 2)))
                self.turn_back(min(backs, 5))
                head = self.ledger.head()
                while self.ledger.head() < head + patience:
                    self.add_block()
                heights = [at for at, block in enumerate(self.numbers(), start=1) if number in block]
                self.assertEqual(len(heights), 1)
                self.assertLessEqual(heights[0], min(head, 4) + patience)


class ExampleTest(unittest.TestCase):
    def test_the_example_of_the_document(self):
        ledger = Ledger(Book(), Accounts({"ann": 5}), 2)
        self.assertEqual((ledger.send("ann", ("put", 1, 0)), ledger.send("ann", ("ask",))), (1, 2))
        self.assertEqual((len(ledger.add_block((2,))), ledger.pool()), (1, [((1, "ann", ("put", 1, 0)), 2)]))
        self.assertEqual((ledger.turn_back(1), [due for letter, due in ledger.pool()]), (True, [2, 2]))


if __name__ == "__main__":
    unittest.main()
