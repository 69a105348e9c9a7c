"""Sets of heights: how many items the rows have above those that were there when a visit began.

There are at most two rows. A set is an integer with a bit for each member: the height in the first row, plus 32 times
the height in the second row, is the number of its bit. Heights of more than 30 are left out.
"""

from tryback.rules import MOST_ITEMS

STRIDES = (1, 32)
# Shifts by sums of these lead from each height down to 0.
HALVINGS = (16, 8, 4, 2, 1)
# The set that contains only the heights with nothing above.
NOTHING_ABOVE = 1


class HeightSets:
    """Operations on sets of heights of so many rows. Rows are told by their numbers."""

    def __init__(self, many):
        first, second = [list(range(MOST_ITEMS + 1)) if row < many else [0] for row in range(2)]
        self.whole = set_of(first, second)
        # For each row all members that have nothing above in it.
        self.grounds = [set_of([0], second), set_of(first, [0])]

    def pushed(self, heights, row):
        """All of them behind a push."""
        return (heights << STRIDES[row]) & self.whole

    def popped(self, heights, row):
        """Those that have an item above, behind a pop."""
        return self.above(heights, row) >> STRIDES[row]

    def grounded(self, heights, row):
        """Those that have no item above."""
        return heights & self.grounds[row]

    def above(self, heights, row):
        """Those that have an item above."""
        return heights & (self.whole ^ self.grounds[row])

    def cut(self, heights, row):
        """All of them behind a cut."""
        for steps in HALVINGS:
            heights = heights | (heights >> (steps * STRIDES[row]))
        return heights & self.grounds[row]


def set_of(first, second):
    """The set of all pairs of these heights of the two rows."""
    found = 0
    for one in first:
        for other in second:
            found = found | (1 << (one * STRIDES[0] + other * STRIDES[1]))
    return found
