"""Traces: which puzzles make them, and with which codes.

A trace tells all calls and all changes, so it also tells which cells are blank at each place and how each call came
back. What it does not tell are the bits, and those of one visit do not depend on those of another.
"""

from tryback.errors import TooGreat
from tryback.flows import Flow
from tryback.puzzles import grown

# The states of a search are pairs: the number of a step that asks for a bit, and the number of the event that comes
# next. These stand for the end of the visit with all of its events, and for a step that its events refute.
DONE = (-1, 0)
LOST = (-1, 1)
CELL_WORDS = ("put", "blank", "give")
LEVELS = {"enter": 1, "leave": -1}


class TracedVisit:
    """A visit as a trace shows it: its function, its events, and the numbers of the visits that it calls.

    An event is a tuple: a pair of the trace, the way of the last call ahead of it, and a dict that tells for each cell
    whether it is filled then. The enter of a called visit is an event of the caller; the last event is its own leave.
    """

    def __init__(self, function, filled):
        self.function = function
        self.filled = filled
        self.events = []
        self.children = []
        self.last = None


class Reader:
    """Takes a trace apart into its visits, in the order in which they begin."""

    def __init__(self, code):
        self.filled = {cell: False for cell in code.cells}
        self.visits = []
        self.under_way = []

    def take(self, pair):
        """Go on with the next pair of the trace."""
        word, name = pair
        if self.under_way:
            visit = self.under_way[-1]
            visit.events.append((pair, visit.last, dict(self.filled)))
        if word == "enter":
            self.enter(name)
        elif word == "leave":
            self.under_way.pop()
            self.come_back(name)
        elif word == "miss":
            self.under_way[-1].children.append(None)
            self.come_back("none")
        elif word in CELL_WORDS and name in self.filled:
            self.change(word, name)

    def enter(self, function):
        """Begin a visit."""
        if self.under_way:
            self.under_way[-1].children.append(len(self.visits))
        visit = TracedVisit(function, dict(self.filled))
        self.visits.append(visit)
        self.under_way.append(visit)

    def come_back(self, way):
        """Let the last call of the innermost visit return in this way."""
        if self.under_way:
            self.under_way[-1].last = way

    def change(self, word, cell):
        """Note whether the cell is filled behind a put, a blank or a give."""
        before = self.under_way[-1].filled[cell]
        self.filled[cell] = word == "put" or (word == "give" and before)


class Search:
    """The search for the readings of a visit that agree with its events."""

    def __init__(self, flow, events):
        self.steps = flow.steps
        self.events = events
        self.start = self.settled(flow.start, 0)
        self.choices = {}
        self.lengths = {}
        self.find_choices()
        self.find_lengths()

    def settled(self, at, number):
        """The state to which a visit goes, without using a bit, from this step with this event next."""
        while self.steps[at][0] not in ("ask", "end"):
            pair, last, filled = self.events[number]
            step = self.steps[at]
            if step[0] == "told":
                at = step[1] if last == "found" else step[2]
            elif step[0] == "look":
                at = step[2] if filled[step[1]] else step[3]
            elif not agrees(step, pair):
                return LOST
            else:
                number += 1
                # The next event tells how the call came back; there is one, because the last one is the leave.
                faulted = step[0] == "deeper" and self.events[number][1] == "fault"
                at = step[3] if faulted else step[2]
        if self.steps[at][0] == "ask":
            return (at, number)
        return DONE if self.events[number][0] == ("leave", self.steps[at][1]) else LOST

    def find_choices(self):
        """Find the states behind a 0 and behind a 1 for each state that can be reached."""
        waiting = [self.start]
        while waiting:
            state = waiting.pop()
            if state not in self.choices and state not in (DONE, LOST):
                at, number = state
                _, _, one, zero = self.steps[at]
                self.choices[state] = (self.settled(zero, number), self.settled(one, number))
                waiting.extend(list(self.choices[state]))

    def find_lengths(self):
        """Find the least number of bits up to the end for each state from which it can be reached."""
        leading = {}
        for state in self.choices:
            for goal in self.choices[state]:
                leading.setdefault(goal, []).append(state)
        self.lengths[DONE] = 0
        layer = [DONE]
        while layer:
            further = []
            for goal in layer:
                for state in leading.get(goal, []):
                    if state not in self.lengths:
                        self.lengths[state] = self.lengths[goal] + 1
                        further.append(state)
            layer = further

    def succeeds(self):
        """Whether there is a reading."""
        return self.start in self.lengths

    def shortest_from(self, state):
        """The first one of the shortest sequences of bits from this state to the end."""
        bits = []
        while state != DONE:
            zero, one = self.choices[state]
            bit = 0 if self.lengths.get(zero) == self.lengths[state] - 1 else 1
            bits.append(bit)
            state = one if bit == 1 else zero
        return bits

    def shortest(self):
        """The first one of the shortest readings."""
        return self.shortest_from(self.start)

    def other(self):
        """A reading other than that; None if there is none."""
        state = self.start
        bits = []
        for bit in self.shortest():
            turned = self.choices[state][1 - bit]
            if turned in self.lengths:
                return [*bits, 1 - bit, *self.shortest_from(turned)]
            bits.append(bit)
            state = self.choices[state][bit]
        return None


def agrees(step, pair):
    """Whether this step, a statement or a call, shows itself in a trace by this pair."""
    if step[0] == "do":
        return pair == step[1]
    return pair in (("enter", step[1]), ("miss", step[1]))


def maker(code, trace):
    """The puzzle with the first of the shortest readings that makes the trace; None if there is none."""
    visits = visits_in(code, trace)
    found = searches(code, visits)
    return puzzle_of(visits, [search.shortest() for search in found])


def another(code, trace):
    """A puzzle that makes the trace with another reading than that of maker; None if there is none."""
    visits = visits_in(code, trace)
    found = searches(code, visits)
    readings = [search.shortest() for search in found]
    for number, search in enumerate(found):
        other = search.other()
        if other is not None:
            return puzzle_of(visits, [*readings[:number], other, *readings[number + 1:]])
    return None


def makers(codes, trace):
    """The numbers of the codes with which some puzzle makes the trace."""
    return [number for number, code in enumerate(codes) if maker(code, trace) is not None]


def searches(code, visits):
    """A search for each visit; [] if one of them fails."""
    flows = {function.name: Flow(function.body) for function in code.functions}
    found = []
    for visit in visits:
        # The function is one of the code: the search for the visit that calls it has found a deeper for it.
        search = Search(flows[visit.function], visit.events)
        if not search.succeeds():
            return []
        found.append(search)
    return found


def puzzle_of(visits, readings):
    """The puzzle with these readings; None if there are none, or if it is beyond the bounds of puzzles."""
    if not readings:
        return None
    try:
        return grown(readings, [visit.children for visit in visits])
    except TooGreat:
        return None


def visits_in(code, trace):
    """The visits of a trace; [] if it is not one whole visit of the start function."""
    pairs = [tuple(pair) for pair in trace]
    if not is_whole(pairs) or pairs[0][1] != code.start:
        return []
    reader = Reader(code)
    for pair in pairs:
        reader.take(pair)
    return reader.visits


def is_whole(pairs):
    """Whether the pairs are one visit from its enter to its leave, with whole visits inside."""
    if not pairs or pairs[0][0] != "enter":
        return False
    level = 0
    for at, (word, _) in enumerate(pairs):
        if at > 0 and level == 0:
            return False
        level += LEVELS.get(word, 0)
    return level == 0
