"""Heights of rows: how many items a row has beyond those that it had when a visit began."""

from tryback.errors import NoRow
from tryback.flows import WAYS
from tryback.passages import FIRST_PLACE, Passages
from tryback.ways import faulting

# A way without a round that adds items passes each push at most once in each of the six moods, so it stays below this.
ENDLESS = 100


class Heights:
    """What is known of the heights of a row in a function: its stretches, or a shortest way to a break and its kind."""

    def __init__(self, stretches, kind, way):
        self.stretches = stretches
        self.kind = kind
        self.way = way


class Climb:
    """The heights of a row along the ways through a body."""

    def __init__(self, passages, row, full):
        self.passages = passages
        self.row = row
        self.full = full

    def word_at(self, place):
        """The word of the statement at the place if it changes the row; None otherwise."""
        statement = self.passages.statements[place]
        # A row has a name of its own, so that no other statement has this name behind its word.
        return statement[0] if statement is not None and statement[1:] == (self.row,) else None

    def behind(self, place, height):
        """The height behind the statement at the place; None stands for heights without an end."""
        word = self.word_at(place)
        if word == "cut":
            return 0
        if height is None or word is None:
            return height
        if word == "pop":
            return max(0, height - 1)
        return height + 1 if height < ENDLESS else None

    def find_stretches(self):
        """The least and the greatest height at each place that some way passes."""
        found = {FIRST_PLACE: (0, 0)}
        waiting = [FIRST_PLACE]
        while waiting:
            place = waiting.pop()
            # What is higher stays as high or higher, so that the outermost heights lead to the outermost ones.
            low, high = [self.behind(place, height) for height in found[place]]
            for target in self.passages.nexts[place]:
                if target not in WAYS:
                    stretch = joined((low, high), found.get(target, (low, high)))
                    if target not in found or found[target] != stretch:
                        found[target] = stretch
                        waiting.append(target)
        return found

    def falls(self, place, height):
        """Whether an item is taken away at the place that cannot come back."""
        return self.full and height == 0 and self.word_at(place) == "pop"

    def has_break(self, stretches):
        """Whether some way has a break."""
        for place, (low, high) in stretches.items():
            if self.falls(place, low) or (high != 0 and self.ways_out(place)):
                return True
        return False

    def shortest_break(self):
        """The kind and the way of a break; there is one."""
        links = {(FIRST_PLACE, 0): None}
        layer = [(FIRST_PLACE, 0)]
        while True:
            for state in layer:
                kind = self.kind_at(state)
                if kind is not None:
                    return kind, self.way_to(links, state, kind)
            further = []
            for state in layer:
                for target in self.states_behind(state):
                    if target not in links:
                        links[target] = state
                        further.append(target)
            layer = further

    def kind_at(self, state):
        """The kind of a break that a way has which has come to this place at this height; None if it has none."""
        place, height = state
        if self.falls(place, height):
            return "below"
        return "left" if height != 0 and self.ways_out(place) else None

    def ways_out(self, place):
        """The ways out that may come next."""
        return [target for target in self.passages.nexts[place] if target in WAYS]

    def states_behind(self, state):
        """The places that may come next, each with the height there."""
        place, height = state
        behind = self.behind(place, height)
        return [(target, behind) for target in self.passages.nexts[place] if target not in WAYS]

    def way_to(self, links, state, kind):
        """The way that the links tell, with its way out if it is a break of this kind."""
        ends = self.ways_out(state[0])[:1] if kind == "left" else []
        paths = []
        while state is not None:
            paths.append(state[0][0])
            state = links[state]
        return (*paths[::-1], *ends)


def heights(code, function, row, full):
    """The heights of the row in the function; full tells whether the row has items when a visit begins."""
    body = code.named(function).body
    if row not in code.rows:
        raise NoRow(row)
    climb = Climb(Passages(body, faulting(code)), row, full)
    found = climb.find_stretches()
    if climb.has_break(found):
        kind, way = climb.shortest_break()
        return Heights(None, kind, way)
    return Heights(joined_by_spots(found), None, None)


def joined(stretch, other):
    """The stretch of both stretches together."""
    low, high = stretch
    low_too, high_too = other
    return (min(low, low_too), None if high is None or high_too is None else max(high, high_too))


def joined_by_spots(stretches):
    """For each spot, over all of its moods, its path with its least and its greatest height, in order."""
    found = {}
    for (path, _), stretch in stretches.items():
        found[path] = joined(stretch, found.get(path, stretch))
    return tuple([(path, *found[path]) for path in sorted(found)])
