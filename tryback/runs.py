"""Runs: codes executed on puzzles, and what is told of it."""

from tryback.machines import Machine


class Answer:
    """An answer: what it shows at the end, and what the things held when it was told."""

    def __init__(self, how, path, shown, told):
        self.how = how
        self.path = path
        self.cells, self.rows = shown
        self.told_cells, self.told_rows = told

    @property
    def spoiled(self):
        """Whether it shows something else than what was told."""
        return self.cells != self.told_cells or self.rows != self.told_rows


class Visit:
    """A visit: its way, and the contents of all things when it began and when it ended."""

    def __init__(self, path, function, way, contents_in, contents_out):
        self.path = path
        self.function = function
        self.way = way
        self.cells_in, self.rows_in = contents_in
        self.cells_out, self.rows_out = contents_out

    @property
    def restored(self):
        """Whether all things ended as they began; None while the visit has not ended."""
        if self.way is None:
            return None
        return self.cells_in == self.cells_out and self.rows_in == self.rows_out


class Run:
    """What has happened in a run."""

    def __init__(self, way, contents, answers, visits, trace):
        self.way = way
        self.cells, self.rows = contents
        self.answers = answers
        self.visits = visits
        self.trace = trace


def run(code, puzzle):
    """The run of the code on the puzzle."""
    return run_of(executed(code, puzzle))


def executed(code, puzzle):
    """The machine that has executed the code on the puzzle."""
    machine = Machine(code)
    # The nodes of the visits, by the numbers of these.
    nodes = [puzzle]
    while machine.frames:
        frame = machine.frames[-1]
        node = nodes[frame.number]
        if machine.step()[0] == "deeper":
            child = entry_at(node.children, frame.calls, None)
            if child is not None:
                nodes.append(child)
            machine.answer(0 if child is None else 1)
        else:
            machine.answer(entry_at(node.bits, frame.bits, 0))
    return machine


def entry_at(entries, at, otherwise):
    """The entry at this place; behind the last one, what is told instead."""
    return entries[at] if at < len(entries) else otherwise


def run_of(machine):
    """What has happened in the machine so far, all of it new."""
    visits = visits_of(machine)
    return Run(visits[0].way, machine.contents(), answers_of(machine), visits, tuple(machine.trace))


def answers_of(machine):
    """The answers that the machine has recorded."""
    answers = []
    now = machine.contents()
    for how, number, cells, rows in machine.answers:
        told = (cells, rows)
        answers.append(Answer(how, machine.begun[number].path, told if how == "copy" else now, told))
    return answers


def visits_of(machine):
    """The visits of the machine; what is not known of one that has not ended is None."""
    ends = {number: (way, (cells, rows)) for number, way, cells, rows in machine.ended}
    visits = []
    for number, beginning in enumerate(machine.begun):
        way, contents_out = ends.get(number, (None, (None, None)))
        contents_in = (tuple(beginning.cells.values()), tuple(beginning.rows.values()))
        visits.append(Visit(beginning.path, beginning.function, way, contents_in, contents_out))
    return visits
