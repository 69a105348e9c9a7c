"""Machines: codes in execution, from one question to the next one."""

from tryback.flows import Flow


class Beginning:
    """The beginning of a visit: its path and function, and dicts of what the things held then."""

    def __init__(self, path, function, cells, rows):
        self.path = path
        self.function = function
        self.cells = cells
        self.rows = rows


class Frame:
    """A visit that has not ended: its number, its steps, the number of the next one, and what it has used so far."""

    def __init__(self, number, steps, at):
        self.number = number
        self.steps = steps
        self.at = at
        self.bits = 0
        self.calls = 0
        self.turn = 0
        self.last = None

    def twin(self):
        """Another frame that is like this one."""
        other = Frame(self.number, self.steps, self.at)
        other.bits = self.bits
        other.calls = self.calls
        other.turn = self.turn
        other.last = self.last
        return other


class Machine:
    """A code in execution. It stands where an answer is needed, or at the end, where no frame is left.

    What has happened is kept in lists that grow at their ends only, so that a mark need not copy them.
    """

    def __init__(self, code):
        self.flows = {function.name: Flow(function.body) for function in code.functions}
        self.cells = {name: None for name in code.cells}
        self.rows = {name: () for name in code.rows}
        self.frames = []
        # Visits are told by their numbers, in the order in which they began.
        self.begun = []
        # Tuples: the number of the visit, its way, and the contents of the cells and of the rows.
        self.ended = []
        # Tuples: copy or view, the number of the visit, and the contents of the cells and of the rows.
        self.answers = []
        # Tuples: the number of the visit that looks, whether the cell is filled, and how many answers came before.
        self.looks = []
        self.trace = []
        # Pairs: the number of the visit, and the bit or the number of the called visit (None without a child).
        self.bits_used = []
        self.calls_made = []
        self.visit(code.start, ())
        self.go_on()

    def step(self):
        """The step at which the innermost visit stands."""
        frame = self.frames[-1]
        return frame.steps[frame.at]

    def due(self):
        """What is asked: the word, the path of the visit that asks, and a function; None at the end."""
        if not self.frames:
            return None
        beginning = self.begun[self.frames[-1].number]
        step = self.step()
        if step[0] == "deeper":
            return ("deeper", beginning.path, step[1])
        return (step[1], beginning.path, beginning.function)

    def contents(self):
        """What the cells and the rows hold now, as two tuples."""
        return tuple(self.cells.values()), tuple(self.rows.values())

    def answer(self, answer):
        """Go on with this answer, 1 or 0, up to the next question or the end."""
        frame = self.frames[-1]
        step = self.step()
        if step[0] == "deeper":
            self.call(frame, step[1], answer)
        else:
            self.use_bit(frame, step, answer)
        self.go_on()

    def use_bit(self, frame, step, bit):
        """Go on behind an either, a tries or a may."""
        _, word, one, zero = step
        frame.bits += 1
        self.bits_used.append((frame.number, bit))
        if word == "tries" and bit == 1:
            frame.turn += 1
        frame.at = one if bit == 1 else zero

    def call(self, frame, function, child):
        """Visit the next child, if there is one."""
        path = (*self.begun[frame.number].path, frame.calls)
        frame.calls += 1
        if child == 1:
            self.calls_made.append((frame.number, len(self.begun)))
            self.visit(function, path)
        else:
            self.calls_made.append((frame.number, None))
            self.trace.append(("miss", function))
            self.come_back("none")

    def visit(self, function, path):
        """Begin a visit."""
        flow = self.flows[function]
        self.frames.append(Frame(len(self.begun), flow.steps, flow.start))
        self.begun.append(Beginning(path, function, dict(self.cells), dict(self.rows)))
        self.trace.append(("enter", function))

    def leave(self, way):
        """End the innermost visit."""
        frame = self.frames.pop()
        self.ended.append((frame.number, way, *self.contents()))
        self.trace.append(("leave", way))
        if self.frames:
            self.come_back(way)

    def come_back(self, way):
        """Let the deeper of the innermost visit return in this way."""
        _, _, then, fault = self.step()
        frame = self.frames[-1]
        frame.last = way
        frame.at = fault if way == "fault" else then

    def go_on(self):
        """Execute all steps up to one that needs an answer, or to the end."""
        while self.frames and self.step()[0] not in ("ask", "deeper"):
            self.do_step(self.frames[-1], self.step())

    def do_step(self, frame, step):
        """Execute a step that needs no answer."""
        if step[0] == "do":
            self.do(frame, step[1])
            frame.at = step[2]
        elif step[0] == "told":
            frame.at = step[1] if frame.last == "found" else step[2]
        elif step[0] == "look":
            filled = self.cells[step[1]] is not None
            self.looks.append((frame.number, filled, len(self.answers)))
            frame.at = step[2] if filled else step[3]
        else:
            self.leave(step[1])

    def do(self, frame, statement):
        """Execute a statement that the trace shows."""
        word, name = statement
        # A cell may have the name copy or view, so the word comes first.
        if word == "answer":
            self.answers.append((name, frame.number, *self.contents()))
        elif name in self.cells:
            self.cells[name] = self.worth_after(frame, word, name)
        else:
            self.rows[name] = self.row_after(frame, word, name)
        self.trace.append(statement)

    def worth_after(self, frame, word, cell):
        """What the cell holds behind a put, a blank or a give."""
        beginning = self.begun[frame.number]
        if word == "put":
            return (beginning.path, frame.turn)
        return beginning.cells[cell] if word == "give" else None

    def row_after(self, frame, word, row):
        """What the row holds behind a push, a pop or a cut."""
        beginning = self.begun[frame.number]
        held = self.rows[row]
        if word == "push":
            return held + ((beginning.path, frame.turn),)
        return held[:-1] if word == "pop" else held[:len(beginning.rows[row])]

    def logs(self):
        """The lists of what has happened."""
        return [self.begun, self.ended, self.answers, self.looks, self.trace, self.bits_used, self.calls_made]

    def mark(self):
        """What is needed to come back to this place, once."""
        frames = [frame.twin() for frame in self.frames]
        return (frames, dict(self.cells), dict(self.rows), [len(log) for log in self.logs()])

    def take_back(self, mark):
        """Come back to the place of a mark."""
        self.frames, self.cells, self.rows, lengths = mark
        for log, length in zip(self.logs(), lengths):
            del log[length:]
