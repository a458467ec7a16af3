"""Accounts: an amount of money for each name."""


class Accounts:
    """Amounts that are moved from name to name; their sum never changes."""

    def __init__(self, amounts):
        self._amounts = dict(amounts)

    def amount(self, name):
        """The amount of a name; 0 if it was never used."""
        return self._amounts.get(name, 0)

    def move(self, source, target, amount):
        """Take an amount from one name and add it to another; False, and nothing moved, if that cannot be."""
        if not 0 <= amount <= self.amount(source):
            return False
        self._amounts[source] = self.amount(source) - amount
        self._amounts[target] = self.amount(target) + amount
        return True

    def total(self):
        """The sum of all amounts."""
        return sum(self._amounts.values())

    def names(self):
        """The ascending list of the names with an amount above 0."""
        return sorted(name for name, amount in self._amounts.items() if amount > 0)

    def copy(self):
        """Independent accounts with the same amounts."""
        return Accounts(self._amounts)
