"""Rules: how visits go on, as far as it matters for a question.

A visit begins with a context, a tuple of the name of its function and of what is known of the things then. It goes
from place to place; a place is a tuple: the number of a step that asks for a bit or calls, whether the last call came
back with found, and the state, which tells what is known of the things. It ends with an out, a tuple that begins with
its way. A stand is a pair of a place and an out, of which one is None; both are None where the visit need not be
followed.
"""

from tryback.codes import numbered
from tryback.flows import Flow

# The out of a visit in which that comes which is searched for. It serves as a state, too.
GOAL = ("goal",)
NOWHERE = (None, None)
KEPT = 0
BLANKED = 1
CHANGED = 2
CELL_WORDS = ("put", "blank", "give")
ROW_WORDS = ("push", "pop", "cut")
# So many items above those that a row had when a visit began are enough.
MOST_ITEMS = 30


class Rules:
    """What all rules have in common. A class below adds: first_state, handed, back, out_of, is_filled, and done."""

    def __init__(self, bodies, missed, start):
        self.flows = {name: Flow(body) for name, body in bodies.items()}
        # The out of a call without a child.
        self.missed = missed
        self.start = start

    def step(self, context, place):
        """The step of a place."""
        return self.flows[context[0]].steps[place[0]]

    def first_stand(self, context):
        """The first stand of a visit."""
        return self.settled(context, self.flows[context[0]].start, False, self.first_state(context))

    def behind_bit(self, context, place, bit):
        """The stand behind a bit."""
        _, last, state = place
        _, word, one, zero = self.step(context, place)
        if bit == 0:
            return self.settled(context, zero, last, state)
        return self.settled(context, one, last, self.next_round(state) if word == "tries" else state)

    def next_round(self, state):
        """The state when a round begins."""
        return state

    def callee(self, context, place):
        """The context of the visit that is called."""
        return (self.step(context, place)[1], *self.handed(context, place[2]))

    def behind_call(self, context, place, out):
        """The stand behind a call that comes out so."""
        _, _, then, fault = self.step(context, place)
        state = self.back(context, place[2], out)
        return self.settled(context, fault if out[0] == "fault" else then, out[0] == "found", state)

    def settled(self, context, at, last, state):
        """The stand to which a visit comes from this step without using a bit or calling."""
        steps = self.flows[context[0]].steps
        while state is not None and state != GOAL:
            step = steps[at]
            if step[0] in ("ask", "deeper"):
                return (at, last, state), None
            if step[0] == "end":
                return None, self.out_of(context, step[1], state)
            if step[0] == "told":
                at = step[1] if last else step[2]
            elif step[0] == "look":
                filled = self.is_filled(context, state, step[1])
                if filled is None:
                    return None, GOAL
                at = step[2] if filled else step[3]
            else:
                state = self.done(context, state, step[1])
                at = step[2]
        return NOWHERE if state is None else (None, GOAL)


class CellRules(Rules):
    """What visits do to all cells. The context tells for each one whether it is blank (a flag).

    The state, and an out behind its way, tells for each cell whether it is kept, blanked or changed (its how). A visit
    that does not keep all the cells of to_keep (their numbers) comes to the goal.
    """

    def __init__(self, code, to_keep):
        nothing = (KEPT,) * len(code.cells)
        Rules.__init__(self, bodies_of(code), ("none", nothing), (code.start, (True,) * len(code.cells)))
        self.to_keep = to_keep
        self.nothing = nothing
        self.numbers = numbers_of(code.cells)

    def first_state(self, context):
        """All cells are kept."""
        return self.nothing

    def handed(self, context, state):
        """The flags now."""
        return (flags_now(context[1], state),)

    def back(self, context, state, out):
        """What is done to the cells behind a call, too."""
        return tuple([how_behind_call(flag, how, called) for flag, how, called in zip(context[1], state, out[1])])

    def out_of(self, context, way, state):
        """The way, and what is done to the cells."""
        if any([state[number] != KEPT for number in self.to_keep]):
            return GOAL
        return (way, state)

    def is_filled(self, context, state, cell):
        """Whether a look finds the cell filled."""
        number = self.numbers[cell]
        return not is_blank(context[1][number], state[number])

    def done(self, context, state, statement):
        """The state behind a statement."""
        word, name = statement
        if word not in CELL_WORDS:
            return state
        number = self.numbers[name]
        return replaced(state, number, how_behind(word, context[1][number]))


class SteadyRules(Rules):
    """Visits whose calls do nothing to the things, as it is where all of them keep everything.

    The context is the function, the flags of the cells that are watched, and what else is known when the visit begins;
    the state is a pair of the flags now and of what else is known now. Nothing else is known here.
    """

    def __init__(self, bodies, start, watched, known):
        Rules.__init__(self, bodies, ("none",), (start, (True,) * len(watched), known))
        self.numbers = numbers_of(watched)

    def first_state(self, context):
        """The flags, and what else is known."""
        return (context[1], self.known_first(context[2]))

    def known_first(self, known):
        """What else is known in the first state."""
        return known

    def handed(self, context, state):
        """The flags now, and what else a called visit knows."""
        return (state[0], self.known_handed(context, state[1]))

    def known_handed(self, context, known):
        """What else is known when a called visit begins."""
        return known

    def back(self, context, state, out):
        """The state as it was."""
        return state

    def out_of(self, context, way, state):
        """The way."""
        return (way,)

    def is_filled(self, context, state, cell):
        """Whether a look finds the cell filled."""
        return not state[0][self.numbers[cell]]

    def done(self, context, state, statement):
        """The state behind a statement."""
        word, name = statement[:2]
        if word == "answer":
            return self.answered(context, state, statement)
        if word in ROW_WORDS:
            return self.row_done(context, state, word, name)
        if word in CELL_WORDS:
            return self.cell_done(context, state, word, name)
        return self.other_done(context, state, statement)

    def answered(self, context, state, statement):
        """The state behind an answer."""
        return state

    def row_done(self, context, state, word, row):
        """The state behind a push, a pop or a cut."""
        return state

    def cell_done(self, context, state, word, cell):
        """The state behind a put, a blank or a give."""
        flags, known = state
        if cell not in self.numbers:
            return state
        number = self.numbers[cell]
        return (replaced(flags, number, flag_behind(word, context[1][number])), known)

    def other_done(self, context, state, statement):
        """The state behind a statement of another kind, which only merged bodies have."""
        return state


class RowRules(SteadyRules):
    """What visits do to a row. A visit that does not keep it comes to the goal.

    What else the context knows is whether the row has items; the state knows how many it has above these.
    """

    def __init__(self, code, bodies, row):
        SteadyRules.__init__(self, bodies, code.start, looked_at(code), False)
        self.row = row

    def known_first(self, known):
        """Nothing stands above the items that were there."""
        return 0

    def known_handed(self, context, known):
        """Whether the row has items now."""
        return context[2] or known > 0

    def out_of(self, context, way, state):
        """The way, or the goal if the row is longer than it was."""
        return (way,) if state[1] == 0 else GOAL

    def row_done(self, context, state, word, row):
        """The state behind a push, a pop or a cut."""
        flags, height = state
        if row != self.row:
            return state
        if word == "push":
            return (flags, height + 1) if height < MOST_ITEMS else None
        if word == "cut":
            return (flags, 0)
        if height > 0:
            return (flags, height - 1)
        # An item that is taken away below cannot come back.
        return GOAL if context[2] else state


def bodies_of(code):
    """The bodies of the functions of the code, by their names."""
    return {function.name: function.body for function in code.functions}


def numbers_of(names):
    """The numbers of the names, by the names."""
    return {name: number for number, name in enumerate(names)}


def looked_at(code):
    """The cells at which some function looks, in the order of the code."""
    cells = {}
    for function in code.functions:
        for statement, _ in numbered(function.body, ()):
            if statement[0] == "look":
                cells[statement[1]] = True
    return [cell for cell in code.cells if cell in cells]


def replaced(entries, number, entry):
    """The tuple with this entry at the place of this number."""
    return (*entries[:number], entry, *entries[number + 1:])


def flag_behind(word, flag):
    """Whether a cell is blank behind a put, a blank or a give, if this is its flag."""
    return word == "blank" or (word == "give" and flag)


def how_behind(word, flag):
    """What is done to a cell behind a put, a blank or a give, if this is its flag."""
    if word == "put":
        return CHANGED
    return BLANKED if word == "blank" and not flag else KEPT


def how_behind_call(flag, how, called):
    """What is done to a cell behind a call that did this to it, too, if this is its flag."""
    if called == KEPT:
        return how
    return CHANGED if called == CHANGED else how_behind("blank", flag)


def is_blank(flag, how):
    """Whether a cell with this flag, to which this was done, is blank."""
    return how == BLANKED or (how == KEPT and flag)


def flags_now(flags, hows):
    """The flags of the cells behind what was done to them."""
    return tuple([is_blank(flag, how) for flag, how in zip(flags, hows)])
