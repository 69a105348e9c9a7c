"""Desks: runs that are led by hand, answer by answer."""

from tryback.errors import Ended, NothingToUndo, TooGreat
from tryback.machines import Machine
from tryback.puzzles import GREATEST_DEPTH, MOST_NODES, grown
from tryback.runs import run_of


class Desk:
    """A run whose puzzle is told answer by answer."""

    def __init__(self, code):
        self.machine = Machine(code)
        # The answers given, and for each of them the mark of the machine ahead of it.
        self.given = []
        self.marks = []
        # The answers taken back, the next one to give again at the end.
        self.taken_back = []

    def due(self):
        """What is asked; None if the run has ended."""
        return self.machine.due()

    def say(self, answer):
        """Give an answer."""
        asked = self.machine.due()
        if asked is None:
            raise Ended()
        if asked[0] == "deeper" and answer == 1 and not self.has_room(asked[1]):
            raise TooGreat()
        self.taken_back = []
        self.give(answer)

    def undo(self):
        """Take the last answer back."""
        if not self.given:
            raise NothingToUndo()
        self.machine.take_back(self.marks.pop())
        self.taken_back.append(self.given.pop())

    def redo(self):
        """Give the answer again that was taken back last."""
        if not self.taken_back:
            raise NothingToUndo()
        self.give(self.taken_back.pop())

    def report(self):
        """A new Run of what has happened so far."""
        return run_of(self.machine)

    def so_far(self):
        """The puzzle of all answers given."""
        bits = [[] for _ in self.machine.begun]
        families = [[] for _ in self.machine.begun]
        for number, bit in self.machine.bits_used:
            bits[number].append(bit)
        for number, child in self.machine.calls_made:
            families[number].append(child)
        return grown(bits, families)

    def answers_given(self):
        """The answers given, from the first to the last."""
        return list(self.given)

    def left_open(self):
        """For each open visit its path, its function and the things that it has not left as it found them."""
        beginnings = [self.machine.begun[frame.number] for frame in self.machine.frames]
        return [(begun.path, begun.function, self.changed_since(begun)) for begun in beginnings]

    def changed_since(self, beginning):
        """The names of the things that do not hold what they held at this beginning."""
        cells, rows = self.machine.cells, self.machine.rows
        changed = [name for name in cells if cells[name] != beginning.cells[name]]
        changed.extend([name for name in rows if rows[name] != beginning.rows[name]])
        return tuple(changed)

    def has_room(self, path):
        """Whether the puzzle stays within its bounds with one more child of the node at this path."""
        return len(self.machine.begun) < MOST_NODES and len(path) + 2 <= GREATEST_DEPTH

    def give(self, answer):
        """Give an answer for which there is room."""
        self.marks.append(self.machine.mark())
        self.given.append(answer)
        self.machine.answer(answer)
