"""The ledger: letters, the pool in which they wait, and the chain of blocks."""

from onewatcher.seals import is_number


class Ledger:
    """Puts letters into blocks and carries them out; blocks can be taken back."""

    def __init__(self, contract, accounts, patience):
        self._patience = patience
        self._sent = 0
        # The letters of the pool by their numbers, and the due heights of all letters.
        self._pool = {}
        self._dues = {}
        self._blocks = []
        self._answers = []
        # The contract and the accounts behind each block; at 0, those that the ledger begins with.
        self._states = [(contract.copy(), accounts.copy())]

    def send(self, sender, deed):
        """Put a letter into the pool; returns its number."""
        self._sent += 1
        self._pool[self._sent] = (self._sent, sender, deed)
        self._dues[self._sent] = self.head() + self._patience
        return self._sent

    def _numbers_of_block(self, chosen):
        """The numbers of the letters of the next block, in order."""
        numbers = {}
        for number in chosen:
            if number in self._pool:
                numbers[number] = True
        for number in sorted(self._pool):
            if self._dues[number] <= self.head() + 1:
                numbers[number] = True
        return list(numbers)

    def _carry_out(self, block, height):
        """The answers to the letters of a block; the state behind it is kept."""
        contract, accounts = self._states[-1]
        # What no letter can change needs no copy: most blocks of a long wait are empty.
        if len(block) > 0:
            contract = contract.copy()
            accounts = accounts.copy()
        answers = [contract.apply(sender, deed, height, accounts) for _, sender, deed in block]
        self._states.append((contract, accounts))
        return tuple(answers)

    def add_block(self, chosen):
        """Make the next block, with the chosen letters first; returns the answers to its letters."""
        block = [self._pool[number] for number in self._numbers_of_block(chosen)]
        for number, _, _ in block:
            del self._pool[number]
        self._blocks.append(tuple(block))
        self._answers.append(self._carry_out(block, self.head()))
        return self._answers[-1]

    def turn_back(self, count):
        """Take back the last blocks; False, and nothing changed, if there are not so many."""
        if not is_number(count, self.head()):
            return False
        head = self.head() - count
        for block in self._blocks[head:]:
            for letter in block:
                self._pool[letter[0]] = letter
        del self._blocks[head:]
        del self._answers[head:]
        del self._states[head + 1:]
        for number in self._pool:
            self._dues[number] = min(self._dues[number], head + self._patience)
        return True

    def head(self):
        """The height of the last block, or 0."""
        return len(self._blocks)

    def patience(self):
        """How many blocks a letter can be kept out."""
        return self._patience

    def blocks(self):
        """The list of the blocks."""
        return list(self._blocks)

    def answers(self, height):
        """The answers of the block at a height, or None if there is none."""
        if not 1 <= height <= self.head():
            return None
        return self._answers[height - 1]

    def pool(self):
        """The list of the letters of the pool with their due heights, in the order of their numbers."""
        return [(self._pool[number], self._dues[number]) for number in sorted(self._pool)]

    def contract(self):
        """A copy of the contract at the head."""
        contract, _ = self._states[-1]
        return contract.copy()

    def accounts(self):
        """A copy of the accounts at the head."""
        _, accounts = self._states[-1]
        return accounts.copy()
