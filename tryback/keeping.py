"""Keeping: whether each visit leaves all things as they were, and if not, a least puzzle that shows it."""

from tryback.breaks import Breaks
from tryback.derivations import least_to_goal
from tryback.errors import NoCell
from tryback.rules import CellRules, RowRules, bodies_of
from tryback.runs import run


class Break:
    """A puzzle with a visit that does not keep a thing."""

    def __init__(self, puzzle, visit, thing):
        self.puzzle = puzzle
        self.path = visit.path
        self.function = visit.function
        self.way = visit.way
        self.thing = thing


def keeps(code):
    """None if the code is clean, otherwise a Break with a least puzzle."""
    things = [thing for _, thing in broken(code)]
    all_rules = []
    if any([cell in things for cell in code.cells]):
        all_rules.append(CellRules(code, list(range(len(code.cells)))))
    for row in code.rows:
        if row in things:
            # A puzzle that is found breaks something, although these rules do not follow the other things: as long as
            # nothing is broken, calls do nothing to any thing.
            all_rules.append(RowRules(code, bodies_of(code), row))
    puzzle = least_to_goal(all_rules)
    if puzzle is None:
        return None
    visit = first_to_break(run(code, puzzle))
    return Break(puzzle, visit, things_broken(code, visit)[0])


def keeps_cell(code, cell):
    """None if each visit of each puzzle keeps the cell, otherwise a Break for this cell with a least puzzle."""
    if cell not in code.cells:
        raise NoCell(cell)
    puzzle = least_to_goal([CellRules(code, [code.cells.index(cell)])])
    if puzzle is None:
        return None
    visits = [visit for visit in run(code, puzzle).visits if cell in things_broken(code, visit)]
    return Break(puzzle, visits[0], cell)


def broken(code):
    """The broken pairs of a function and a thing, in the order of the functions, then of the cells and the rows."""
    pairs = Breaks(code).pairs
    names = [function.name for function in code.functions]
    things = [*code.cells, *code.rows]
    return tuple([(name, thing) for name in names for thing in things if (name, thing) in pairs])


def things_broken(code, visit):
    """The names of the things that the visit does not keep."""
    names = [*code.cells, *code.rows]
    before = [*visit.cells_in, *visit.rows_in]
    behind = [*visit.cells_out, *visit.rows_out]
    return [name for name, held, holds in zip(names, before, behind) if held != holds]


def first_to_break(done):
    """The first visit to end that does not keep everything."""
    first = None
    for visit in done.visits:
        # Visits stand in the order in which they began. Of the later ones, those inside this one end ahead of it.
        if not visit.restored and (first is None or visit.path[:len(first.path)] == first.path):
            first = visit
    return first
