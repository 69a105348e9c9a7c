"""Logs: the worths that cells held ahead of their changes, and in which orders taking them back restores all."""

from math import factorial

from tryback.errors import NoCell, NoEntry


class Log:
    """Cells that change, with an entry for each change: the name of the cell and the worth that was there."""

    def __init__(self, cells):
        self.held = dict(cells)
        self.entries = ()

    @property
    def now(self):
        """What the cells hold, as a new dict."""
        return dict(self.held)

    def change(self, cell, worth):
        """Put a worth into a cell."""
        if cell not in self.held:
            raise NoCell(cell)
        self.entries = (*self.entries, (cell, self.held[cell]))
        self.held[cell] = worth

    def undone(self, order):
        """What the cells hold after the entries of these numbers are taken back in this order, from now on."""
        cells = dict(self.held)
        for cell, worth in self.entries_in(order):
            cells[cell] = worth
        return cells

    def restores(self, order):
        """Whether taking back these entries in this order leaves all cells as they were, whatever the worths are."""
        self.check_order(order)
        # The last entry of a cell that is taken back decides what the cell holds then.
        last = {self.entries[number][0]: number for number in order}
        firsts = self.firsts()
        return all([last.get(cell) == number for cell, number in firsts.items()])

    def least(self):
        """The numbers of the first entries of the cells, ascending."""
        return tuple(self.firsts().values())

    def orders(self):
        """How many orders of all entries restore."""
        many = {}
        for cell, _ in self.entries:
            many[cell] = many.get(cell, 0) + 1
        found = factorial(len(self.entries))
        for count in many.values():
            found = found // count
        return found

    def firsts(self):
        """The number of the first entry of each changed cell, by the cells, ascending."""
        found = {}
        for number, (cell, _) in enumerate(self.entries):
            found.setdefault(cell, number)
        return found

    def check_order(self, order):
        """Raise NoEntry for the first number that no entry has."""
        for number in order:
            if not 0 <= number < len(self.entries):
                raise NoEntry(number)

    def entries_in(self, order):
        """The entries of these numbers."""
        self.check_order(order)
        return [self.entries[number] for number in order]
