"""Two codes of one shape: whether they go alike for all puzzles."""

from tryback.derivations import least_to_goal
from tryback.errors import OtherShape
from tryback.merging import merged, outline
from tryback.rules import GOAL, RowRules, SteadyRules, looked_at
from tryback.runs import executed, run_of
from tryback.views import check_clean

# What a cell can hold in one of the two codes, as far as it matters: nothing; what it held when the visit began (the
# second one if the two codes held different worths then); what this visit has put in, in the turn in which it is, in an
# earlier one, or in an earlier one other than that of the other code.
BLANK = 0
HELD = 1
HELD_OTHERWISE = 2
NEW = 3
OLD = 4
OLD_OTHERWISE = 5


class Unlike:
    """A puzzle with a visit in which two codes part, by a look or by an answer."""

    def __init__(self, puzzle, path, kind):
        self.puzzle = puzzle
        self.path = path
        self.kind = kind


class CellPairRules(SteadyRules):
    """The goal is a look at this cell, or an answer that shows it, in which the two codes part.

    What else is known is the pair of what the cell holds in the two codes. Looks at other cells are taken to come out
    as in the first code.
    """

    def __init__(self, code, bodies, cell):
        SteadyRules.__init__(self, bodies, code.start, looked_at(code), (BLANK, BLANK))
        self.cell = cell

    def known_handed(self, context, known):
        """The pair as a called visit finds it."""
        if known[0] == known[1]:
            return (BLANK, BLANK) if known[0] == BLANK else (HELD, HELD)
        if BLANK in known:
            return tuple([BLANK if worth == BLANK else HELD for worth in known])
        return (HELD, HELD_OTHERWISE)

    def next_round(self, state):
        """The state when a round begins: all that was put in is old now."""
        flags, known = state
        if known in ((NEW, OLD), (OLD, NEW)):
            return (flags, (OLD, OLD_OTHERWISE))
        return (flags, tuple([OLD if worth == NEW else worth for worth in known]))

    def is_filled(self, context, state, cell):
        """Whether a look finds the cell filled; None if the codes part."""
        one, other = state[1]
        if cell == self.cell and (one == BLANK) != (other == BLANK):
            return None
        return super().is_filled(context, state, cell)

    def answered(self, context, state, statement):
        """The state behind an answer."""
        _, *hows = statement
        one, other = state[1]
        if hows[0] != hows[1]:
            # At the end, the view of the one code shows a blank cell.
            parts = state[1][hows.index("copy")] != BLANK
        else:
            parts = hows[0] == "copy" and one != other
        return GOAL if parts else state

    def cell_done(self, context, state, word, cell):
        """The state behind a change of a cell in the first code."""
        return self.pair_done(context, super().cell_done(context, state, word, cell), 0, (word, cell))

    def other_done(self, context, state, statement):
        """The state behind a change of a cell in the second code."""
        return self.pair_done(context, state, 1, statement[1])

    def pair_done(self, context, state, number, change):
        """The state behind a change of a cell in the code of this number; the flags are left as they are."""
        flags, known = state
        word, cell = change
        if cell != self.cell:
            return state
        worths = {"put": NEW, "blank": BLANK, "give": context[2][number]}
        return (flags, (worths[word], known[1]) if number == 0 else (known[0], worths[word]))


class RowPairRules(RowRules):
    """The goal is an answer that is a copy in the one code and a view in the other one while the row is not empty."""

    def answered(self, context, state, statement):
        """The state behind an answer."""
        return GOAL if statement[1] != statement[2] and self.known_handed(context, state[1]) else state


def alike(one, other):
    """None if the codes go alike for all puzzles, otherwise an Unlike with a least puzzle."""
    if shape(one) != shape(other):
        raise OtherShape()
    check_clean(one)
    check_clean(other)
    bodies = {}
    for function, twin in zip(one.functions, other.functions):
        bodies[function.name] = merged(function.body, twin.body)
    # Rules may take a look that parts the codes for one that does not; a puzzle that is found parts them all the same.
    all_rules = [CellPairRules(one, bodies, cell) for cell in one.cells]
    all_rules.extend([RowPairRules(one, bodies, row) for row in one.rows])
    puzzle = least_to_goal(all_rules)
    if puzzle is None:
        return None
    path, kind = parting(executed(one, puzzle), executed(other, puzzle))
    return Unlike(puzzle, path, kind)


def shape(code):
    """What two codes of the same shape have in common."""
    outlines = tuple([(function.name, outline(function.body)) for function in code.functions])
    return (code.cells, code.rows, outlines, code.start)


def parting(one, other):
    """Where two machines part that have executed the same puzzle: the path of the visit, and how they part in it."""
    answers = list(zip(run_of(one).answers, run_of(other).answers))
    for (number, filled, before), (_, filled_too, _) in zip(one.looks, other.looks):
        if filled != filled_too:
            # The answers ahead of this look can be compared, because up to here both go in the same way.
            path = path_of_difference(answers[:before])
            return (one.begun[number].path, "look") if path is None else (path, "answer")
    return path_of_difference(answers), "answer"


def path_of_difference(pairs):
    """The path of the first pair of answers that do not show the same; None if there is none."""
    for answer, twin in pairs:
        if (answer.cells, answer.rows) != (twin.cells, twin.rows):
            return answer.path
    return None
