"""What several tests share: random codes and puzzles, and an execution of codes that is written in another way.

The execution here is recursive and leaves blocks by exceptions; it asks two functions for bits and children. What is
promised for all puzzles at once is compared with many executions of one code.
"""

from tryback.codes import Code, Function
from tryback.puzzles import Puzzle

MAY = ("may",)


def code(body, other=(), cells=("a", "b"), rows=("r", "s"), third=None):
    """A code with the functions f and g, and h if a third body is given."""
    functions = [Function("f", body), Function("g", other)]
    if third is not None:
        functions.append(Function("h", third))
    return Code(cells, rows, functions, "f")


def random_part(dice, room, depth=0, around=()):
    """A part with statements of all kinds; room counts down how many may still be made."""
    part = []
    for _ in range(dice.randrange(5)):
        if room[0] == 0:
            break
        room[0] -= 1
        part.append(random_statement(dice, room, depth, around))
    return part


def random_statement(dice, room, depth, around):
    changes = [(word, name) for word in ("put", "blank", "give") for name in "ab"]
    changes += [(word, name) for word in ("push", "pop", "cut") for name in "rs"]
    if "lastly" in around:
        return dice.choice(changes)
    plain = changes + [("deeper", "f"), ("deeper", "g")] * 4 + [("answer", "copy"), ("answer", "view")] * 2
    plain += [("stop", "found"), ("stop", "none"), ("fault",), MAY, MAY]
    if "tries" in around:
        plain += [("again",), ("out",)] * 2
    words = ["either", "tries", "tries", "told", "look", "guard", "lastly"]
    if depth == 3 or dice.randrange(3) > 0:
        return dice.choice(plain)
    word = dice.choice(words)
    first = random_part(dice, room, depth + 1, (*around, word) if word == "tries" else around)
    if word == "tries":
        return (word, first)
    second = random_part(dice, room, depth + 1, (*around, word) if word == "lastly" else around)
    return ("look", dice.choice("ab"), first, second) if word == "look" else (word, first, second)


def random_code(dice):
    return code(random_part(dice, [14]), random_part(dice, [14]))


def dense_part(dice, room, depth, around, names):
    """A part with up to this many statements, few of which leave it; names are those of cells, rows and functions."""
    part = []
    while room > 0 and not (depth and part and dice.random() < 0.3):
        statement = dense_statement(dice, room, depth, around, names)
        part.append(statement)
        room -= many_in([statement])
    return part


def dense_statement(dice, room, depth, around, names):
    cells, rows, functions, answers, row_words = names
    changes = [(word, name) for word in ("put", "blank", "give") for name in cells]
    changes += [(word, name) for word in row_words for name in rows]
    if "lastly" in around:
        return dice.choice(changes)
    if depth < 3 and room > 1 and dice.random() < 0.4:
        words = ["either", "tries", "tries", "told", "guard"] + ["look"] * (len(cells) > 0)
        word = dice.choice(words + ["lastly"] * (len(changes) > 0))
        first = dense_part(dice, dice.randint(0, room - 1), depth + 1, (*around, word) if word == "tries" else around, names)
        if word == "tries":
            return (word, first)
        left = min(4, room - 1 - many_in(first))
        inside = (*around, word) if word == "lastly" else around
        second = dense_part(dice, dice.randint(0, left), depth + 1, inside, names)
        return ("look", dice.choice(cells), first, second) if word == "look" else (word, first, second)
    if changes and dice.random() < 0.45:
        return dice.choice(changes)
    plain = [("deeper", name) for name in functions] * 4 + [MAY, MAY]
    plain += [("answer", "copy"), ("answer", "view")] * answers
    if depth > 0 and dice.random() < 0.5:
        plain += [("stop", "found"), ("stop", "none"), ("fault",)]
    if "tries" in around:
        plain += [("again",), ("out",)]
    return dice.choice(plain)


def many_in(part):
    """The number of statements in the part."""
    return sum(1 + sum(many_in(entry) for entry in statement[1:] if not isinstance(entry, str)) for statement in part)


def dense_code(dice, most=14):
    """A code with up to three functions that do much."""
    cells, rows, functions = "abc"[:dice.randrange(4)], "rs"[:dice.randrange(3)], "fgh"[:dice.choice([1, 2, 2, 3])]
    names = (cells or "a", rows, functions, 1, ("push", "pop", "cut"))
    made = [Function(name, dense_part(dice, dice.randint(2, most), 0, (), names)) for name in functions]
    return Code(cells or "a", rows, made, "f")


def clean_code(dice, most=12):
    """A code whose functions give all things back lastly."""
    cells, rows, functions = "abc"[:dice.choice([1, 1, 2, 3])], "rs"[:dice.choice([0, 0, 1, 2])], "fgh"[:dice.choice([1, 2, 2, 3])]
    names = (cells, rows, functions, 3, ("push", "cut"))
    back = [("give", name) for name in cells] + [("cut", name) for name in rows]
    made = []
    for name in functions:
        wanted, part = dice.randint(3, most - len(back)), []
        while many_in(part) < wanted:
            part = dense_part(dice, wanted, 1, (), names)
        made.append(Function(name, [("lastly", part, back)]))
    return Code(cells, rows, made, "f")


def random_puzzle(dice, levels=4):
    bits = [dice.randrange(2) for _ in range(dice.choice([0, 0, 1, 2, 3, 5, 8]))]
    many = dice.randrange(4) if levels > 1 else 0
    return Puzzle(bits, [random_puzzle(dice, levels - 1) if dice.randrange(4) else None for _ in range(many)])


class Pause(Exception):
    """There is no answer yet."""


class Refuted(Exception):
    """The trace is another one."""


class Signal(Exception):
    """Leaves blocks, up to the goal that it tells."""


class Me:
    """A visit in execution."""

    def __init__(self, path, function, cells, rows):
        self.path, self.function, self.cells, self.rows = path, function, cells, rows
        self.turn = self.calls = 0
        self.last = None
        self.reading = []


class Execution:
    """A code that is executed with bits from ask_bit(here, me, word) and children from ask_child(here, me, function)."""

    def __init__(self, made, ask_bit, ask_child, expected=None):
        self.made, self.ask_bit, self.ask_child, self.expected = made, ask_bit, ask_child, expected
        self.cells = {name: None for name in made.cells}
        self.rows = {name: [] for name in made.rows}
        self.trace, self.visits, self.answers, self.under_way, self.readings = [], [], [], [], {}
        self.way = None
        try:
            self.way = self.visit(made.start, ())
        except Pause:
            pass

    def contents(self):
        return tuple(self.cells.values()), tuple(tuple(row) for row in self.rows.values())

    def note(self, pair):
        self.trace.append(pair)
        at = len(self.trace)
        if self.expected is not None and tuple(self.expected[at - 1:at]) != (pair,):
            raise Refuted()

    def visit(self, function, path):
        me = Me(path, function, dict(self.cells), {name: list(row) for name, row in self.rows.items()})
        record = {"path": path, "function": function, "in": self.contents(), "way": None, "out": (None, None)}
        self.visits.append(record)
        self.under_way.append(me)
        self.readings[path] = me.reading
        self.note(("enter", function))
        way = "none"
        try:
            self.execute(self.made.named(function).body, me)
        except Signal as signal:
            way = signal.args[0]
        record["way"], record["out"] = way, self.contents()
        self.under_way.pop()
        self.note(("leave", way))
        return way

    def execute(self, part, me):
        for statement in part:
            word, *rest = statement
            getattr(self, f"do_{word}", self.change)(me, *rest, **({"word": word} if len(rest) == 1 else {}))

    def bit(self, me, word):
        bit = self.ask_bit(self, me, word)
        me.reading.append(bit)
        return bit

    def change(self, me, name, word):
        row = self.rows.get(name)
        if word == "put":
            self.cells[name] = (me.path, me.turn)
        elif word == "blank":
            self.cells[name] = None
        elif word == "give":
            self.cells[name] = me.cells[name]
        elif word == "push":
            row.append((me.path, me.turn))
        elif word == "pop":
            del row[-1:]
        else:
            while len(row) > len(me.rows[name]):
                row.pop()
        self.note((word, name))

    def do_answer(self, me, how, word):
        self.answers.append((how, me.path, self.contents()))
        self.note((word, how))

    def do_deeper(self, me, function, word):
        child = self.ask_child(self, me, function)
        path = me.path + (me.calls,)
        me.calls += 1
        if child:
            me.last = self.visit(function, path)
        else:
            me.last = "none"
            self.note(("miss", function))
        if me.last == "fault":
            raise Signal("fault")

    def do_stop(self, me, way, word):
        raise Signal(way)

    def do_fault(self, me):
        raise Signal("fault")

    def do_again(self, me):
        raise Signal("again")

    def do_out(self, me):
        raise Signal("out")

    def do_may(self, me):
        if self.bit(me, "may"):
            raise Signal("fault")

    def do_either(self, me, first, second):
        self.execute(first if self.bit(me, "either") else second, me)

    def do_told(self, me, first, second):
        self.execute(first if me.last == "found" else second, me)

    def do_look(self, me, cell, first, second):
        self.execute(second if self.cells[cell] is None else first, me)

    def do_tries(self, me, first, word):
        while self.bit(me, "tries"):
            me.turn += 1
            try:
                self.execute(first, me)
            except Signal as signal:
                if signal.args[0] == "out":
                    return
                if signal.args[0] != "again":
                    raise

    def do_guard(self, me, first, second):
        try:
            self.execute(first, me)
        except Signal as signal:
            if signal.args[0] != "fault":
                raise
        else:
            return
        self.execute(second, me)

    def do_lastly(self, me, first, second):
        signal = None
        try:
            self.execute(first, me)
        except Signal as told:
            signal = told
        self.execute(second, me)
        if signal is not None:
            raise signal

    def told(self):
        """All that a Run tells, as lists and tuples."""
        cells, rows = self.contents()
        answers = [(how, path, *(then if how == "copy" else (cells, rows)), *then,
                    how == "view" and then != (cells, rows)) for how, path, then in self.answers]
        visits = [(one["path"], one["function"], one["way"], *one["in"], *one["out"],
                   None if one["way"] is None else one["in"] == one["out"]) for one in self.visits]
        return [self.way, cells, rows, answers, visits, tuple(self.trace)]


def told_of(done):
    """The same for a Run."""
    answers = [(one.how, one.path, one.cells, one.rows, one.told_cells, one.told_rows, one.spoiled)
               for one in done.answers]
    visits = [(one.path, one.function, one.way, one.cells_in, one.rows_in, one.cells_out, one.rows_out, one.restored)
              for one in done.visits]
    return [done.way, done.cells, done.rows, answers, visits, done.trace]


def executed(made, puzzle):
    """The execution of a code on a puzzle."""
    def ask_bit(here, me, word):
        return (node_at(puzzle, me.path).bits + (0,) * (len(me.reading) + 1))[len(me.reading)]

    def ask_child(here, me, function):
        return (node_at(puzzle, me.path).children + (None,) * (me.calls + 1))[me.calls] is not None

    return Execution(made, ask_bit, ask_child)


def node_at(puzzle, path):
    for number in path:
        puzzle = puzzle.children[number]
    return puzzle


def answered(made, answers):
    """The execution of a code with these answers, up to the question behind them, and this question or None."""
    left = list(answers)
    due = []

    def answer(word, me, function):
        if not left:
            due.append((word, me.path, function))
            raise Pause()
        return left.pop(0)

    done = Execution(made, lambda here, me, word: answer(word, me, me.function),
                     lambda here, me, function: answer("deeper", me, function))
    return done, due[0] if due else None


def readings_of(made, trace, most):
    """For each path all readings of executions that have this trace and use at most this many bits altogether."""
    found = {}
    waiting = [()]
    while waiting:
        bits = waiting.pop()
        done = traced(made, list(trace), list(bits))
        if done is None:
            continue
        if done.way is None:
            waiting.extend([(*bits, bit) for bit in (0, 1)] if len(bits) < most else [])
        elif len(done.trace) == len(trace):
            for path, reading in done.readings.items():
                found.setdefault(path, set()).add(tuple(reading))
    return found


def traced(made, trace, bits):
    """The execution of a code with these bits and with the children that a trace tells; None if it refutes the trace."""
    def ask_bit(here, me, word):
        if not bits:
            raise Pause()
        return bits.pop(0)

    def ask_child(here, me, function):
        at = len(here.trace)
        return trace[at:at + 1] == [("enter", function)]

    try:
        return Execution(made, ask_bit, ask_child, trace)
    except Refuted:
        return None


def executions(made, most, cap, started=Execution):
    """Up to cap executions of a code, with answers that are 1 in all ways within the first ones and 0 behind these."""
    found = []
    waiting = [()]
    while waiting and len(found) < cap:
        answers = waiting.pop()
        asked = []

        def answer(*_):
            asked.append(len(asked))
            return (answers + (0,) * len(asked))[len(asked) - 1]

        found.append(started(made, answer, answer))
        for at in range(len(answers), min(len(asked), most)):
            waiting.append(answers + (0,) * (at - len(answers)) + (1,))
    return found


def not_kept(made, visit):
    """The things that a visit of an execution does not keep."""
    names = [*made.cells, *made.rows]
    before, behind = [[*visit[side][0], *visit[side][1]] for side in ("in", "out")]
    return [name for name, held, holds in zip(names, before, behind) if held != holds]


def in_order_of_ends(visits):
    """The visits of an execution in the order in which they end."""
    return sorted(visits, key=lambda visit: [*visit["path"], float("inf")])


def size_of(done, path):
    """The number of the nodes that an execution uses from this path on."""
    return len([visit for visit in done.visits if visit["path"][:len(path)] == path])


def required(name, times):
    """Statements behind which the last call came back with found only if so many calls of the function have done so."""
    return [("deeper", name)] + [("told", [("deeper", name)], [])] * (times - 1)


# Counts the cells a and b down, as the digits of a number, and comes back with found from 2 ** (n + 1) - 1 visits.
COUNTDOWN = [("lastly", [("look", "a", [("blank", "a")], [("look", "b", [("blank", "b"), ("put", "a")], [("stop", "found")])]),
                         *required("h", 2), ("told", [("stop", "found")], [])], [("give", "a"), ("give", "b")])]


def great_code(last, times=6, rows=()):
    """A code that comes to its last statement only from 1 + times * 91 visits."""
    middle = [("put", "b"), *required("h", 6), ("told", [("stop", "found")], [])]
    functions = [Function("f", [("put", "a"), *required("g", times), ("told", [last], [])]),
                 Function("g", middle), Function("h", COUNTDOWN)]
    return Code(["a", "b", "c"], rows, functions, "f")


def large_code(back=True, how="view"):
    """A code as large as codes can be, with both rows and all cells in use; it is clean if all is given back."""
    functions = []
    for name, after, (first, second, third) in [("f", "g", "abc"), ("g", "h", "bca"), ("h", "f", "cab")]:
        rounds = [("either", [("either", [("push", "r")], [("put", first)])],
                   [("either", [("push", "s")], [("deeper", after)])])]
        last = [("cut", "r"), ("give", first), ("give", second), ("cut", "s") if back else ("pop", "s")]
        answer = ("answer", how if name == "h" else "copy")
        functions.append(Function(name, [("tries", rounds), ("look", third, [answer], []), *last]))
    return Code(["a", "b", "c"], ["r", "s"], functions, "f")


class Plain:
    """What an Execution needs of a code; it may be greater than a code."""

    def __init__(self, cells, rows, functions, start):
        self.cells, self.rows, self.functions, self.start = cells, rows, functions, start

    def named(self, name):
        return [function for function in self.functions if function.name == name][0]


def executed_with_flags(made, function, flags, puzzle):
    """The execution of a visit that calls the function, as its only child, with the cells blank as the flags tell."""
    puts = [("put", name) for name, flag in zip(made.cells, flags) if not flag]
    first = Function("first", [*puts, ("guard", [("deeper", function)], [])])
    return executed(Plain(made.cells, made.rows, [first, *made.functions], "first"), Puzzle([], [puzzle]))


def flags_of(visit):
    """The flags of a visit of an execution."""
    return tuple(worth is None for worth in visit["in"][0])


def how_of(visit):
    """What a visit of an execution does to each cell."""
    return tuple("kept" if held == holds else "blanked" if holds is None else "changed"
                 for held, holds in zip(visit["in"][0], visit["out"][0]))


def text_ways(part, most, faulting=(), path=(), at=0):
    """All ways through a part from one of its spots on, with at most so many spots, as pairs.

    A pair is the tuple of the spots, each with its statement (None behind the last one), and how the part ends.
    """
    if most <= 0:
        return []
    spot = (*path, at)
    if at == len(part):
        return [(((spot, None),), "on")]
    found = []
    for inside, end in ways_inside(part[at], most - 1, faulting, spot):
        passed = ((spot, part[at]), *inside)
        if end != "on":
            found.append((passed, end))
        else:
            found += [(passed + rest, how) for rest, how in text_ways(part, most - len(passed), faulting, path, at + 1)]
    return found


def ways_inside(statement, most, faulting, spot):
    """All ways from a statement on to what comes behind it, or out of it."""
    word = statement[0]
    parts = [text_ways(entry, most, faulting, (*spot, number))
             for number, entry in enumerate([entry for entry in statement if not isinstance(entry, str)])]
    if word in ("either", "told", "look"):
        return parts[0] + parts[1]
    if word in ("fault", "again", "out"):
        return [((), word)]
    if word == "stop":
        return [((), statement[1])]
    if word == "may" or (word == "deeper" and statement[1] in faulting):
        return [((), "on"), ((), "fault")]
    if word == "tries":
        found = [((), "on")]
        for inside, end in parts[0]:
            if end in ("on", "again"):
                found += [(inside + rest, how) for rest, how in ways_inside(statement, most - len(inside), faulting, spot)]
            else:
                found.append((inside, "on" if end == "out" else end))
        return found
    if word in ("guard", "lastly"):
        found = [way for way in parts[0] if word == "guard" and way[1] != "fault"]
        for inside, end in parts[0]:
            if word == "lastly" or end == "fault":
                for rest, how in text_ways(statement[2], most - len(inside), faulting, (*spot, 1)):
                    found.append((inside + rest, end if word == "lastly" else how))
        return found
    return [((), "on")]


def ways_through(body, most, faulting=()):
    """All ways through a body with at most so many spots: pairs of their spots with statements, and their ways out."""
    return [(passed, "none" if end == "on" else end) for passed, end in text_ways(body, most, faulting)]
