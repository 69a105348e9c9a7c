"""Views: whether an answer that is told as a view is spoiled later."""

from tryback.derivations import least_to_goal
from tryback.errors import Unclean
from tryback.keeping import broken
from tryback.rules import GOAL, RowRules, SteadyRules, bodies_of
from tryback.runs import run


class Spoiled:
    """A puzzle with a visit that tells a view while a thing is filled, which is empty at the end."""

    def __init__(self, puzzle, path, thing):
        self.puzzle = puzzle
        self.path = path
        self.thing = thing


class ViewCellRules(SteadyRules):
    """The goal is a view that is told while some cell is not blank."""

    def __init__(self, code):
        SteadyRules.__init__(self, bodies_of(code), code.start, code.cells, None)

    def answered(self, context, state, statement):
        """The state behind an answer."""
        return GOAL if statement[1] == "view" and not all(state[0]) else state


class ViewRowRules(RowRules):
    """The goal is a view that is told while the row is not empty."""

    def answered(self, context, state, statement):
        """The state behind an answer."""
        return GOAL if statement[1] == "view" and self.known_handed(context, state[1]) else state


def spoiled(code):
    """None if no view is spoiled in any puzzle, otherwise a Spoiled with a least puzzle."""
    check_clean(code)
    all_rules = [ViewCellRules(code)]
    all_rules.extend([ViewRowRules(code, bodies_of(code), row) for row in code.rows])
    puzzle = least_to_goal(all_rules)
    if puzzle is None:
        return None
    answer = [answer for answer in run(code, puzzle).answers if answer.spoiled][0]
    return Spoiled(puzzle, answer.path, filled_things(code, answer.told_cells, answer.told_rows)[0])


def check_clean(code):
    """Raise Unclean if the code is not clean."""
    pairs = broken(code)
    if pairs:
        function, thing = pairs[0]
        raise Unclean(function, thing)


def filled_things(code, cells, rows):
    """The names of the cells that are not blank and of the rows that are not empty."""
    found = [name for name, worth in zip(code.cells, cells) if worth is not None]
    found.extend([name for name, items in zip(code.rows, rows) if items])
    return found
