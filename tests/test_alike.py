"""Two codes: point 39 and the heading tryback/alike.py."""

import random
import unittest

from samples import COUNTDOWN, MAY, Execution, clean_code, executions, large_code, node_at, required
from tryback.alike import Unlike, alike
from tryback.codes import Code, Function
from tryback.errors import OtherShape, TryError, Unclean
from tryback.keeping import broken
from tryback.puzzles import Puzzle

A, B, BLANK, GIVE = ("put", "a"), ("put", "b"), ("blank", "a"), ("give", "a")
BLANKB, GIVEB = ("blank", "b"), ("give", "b")
PUSH, POP, CUT = ("push", "r"), ("pop", "r"), ("cut", "r")
F, G, H = ("deeper", "f"), ("deeper", "g"), ("deeper", "h")
FOUND = ("stop", "found")
COPY, VIEW = ("answer", "copy"), ("answer", "view")
LOOK = ("look", "a", [], [])


class Watched(Execution):
    """An execution with a log of its looks and answers, each with the number of visits that have begun."""

    def __init__(self, *given):
        self.log = []
        super().__init__(*given)

    def do_look(self, me, cell, first, second):
        self.log.append(("look", me.path, self.cells[cell] is not None, len(self.visits)))
        super().do_look(me, cell, first, second)

    def do_answer(self, me, how, word):
        super().do_answer(me, how, word)
        self.log.append(("answer", me.path, self.answers[-1], len(self.visits)))

    def shown(self, event):
        """What can be compared of an event of the log."""
        if event[0] == "look" or event[2][0] == "view":
            return event[2] if event[0] == "look" else self.contents()
        return event[2][2]


def watched(made, puzzle):
    def ask_bit(here, me, word):
        return (node_at(puzzle, me.path).bits + (0,) * (len(me.reading) + 1))[len(me.reading)]

    def ask_child(here, me, function):
        return (node_at(puzzle, me.path).children + (None,) * (me.calls + 1))[me.calls] is not None

    return Watched(made, ask_bit, ask_child)


def parting(one, other, puzzle):
    """The kind, the path and the visits begun, where two codes part first in a puzzle; None if they do not."""
    first, second = watched(one, puzzle), watched(other, puzzle)
    for event, twin in zip(first.log, second.log):
        if first.shown(event) != second.shown(twin):
            return event[0], event[1], event[3]
    if len(first.log) != len(second.log):
        raise AssertionError((first.log, second.log))
    return None


def puzzle_of(done, path=()):
    """The puzzle that an execution uses."""
    last = [visit["path"][-1] for visit in done.visits if visit["path"][:-1] == path and visit["path"]]
    children = [puzzle_of(done, (*path, number)) if number in last else None for number in range(max(last, default=-1) + 1)]
    return Puzzle(done.readings[path], children)


def code(body, other=None, third=None, cells=("a", "b"), rows=("r", "s"), start="f"):
    bodies = [("f", body), ("g", other), ("h", third)]
    return Code(cells, rows, [Function(name, part) for name, part in bodies if part is not None], start)


class Case(unittest.TestCase):
    def go_alike(self, one, other):
        for first, second in [(one, other), (other, one), (one, one), (other, other)]:
            self.assertIsNone(alike(first, second))

    def part(self, one, other, size, kind=None, path=None):
        """In both orders, two codes part in a least puzzle of this size."""
        for first, second in [(one, other), (other, one)]:
            found = alike(first, second)
            self.assertIsInstance(found, Unlike)
            self.assertEqual((found.kind, found.path, found.puzzle.size), parting(first, second, found.puzzle))
            self.assertEqual(found.puzzle.size, size)
            self.assertEqual(len(watched(first, found.puzzle).visits), size)
            if kind is not None:
                self.assertEqual((found.kind, found.path), (kind, path))
            self.assertIsNone(alike(first, first))


class Looks(Case):
    def test_looks_that_part(self):
        self.part(code([A, LOOK, GIVE]), code([LOOK]), 1, "look", ())
        self.part(code([A, LOOK, GIVE]), code([A, GIVE, LOOK]), 1, "look", ())
        self.part(code([A, LOOK, BLANK]), code([A, BLANK, LOOK, BLANK]), 1, "look", ())
        self.part(code([("tries", [A, ("either", [LOOK], []), GIVE])]), code([("tries", [("either", [LOOK], [])])]), 1)

    def test_looks_of_deeper_visits(self):
        self.part(code([A, G, GIVE], [LOOK]), code([G], [LOOK]), 2, "look", (0,))
        self.part(code([A, G, H, GIVE], [], [LOOK]), code([A, G, GIVE, H], [], [LOOK]), 2, "look", (1,))
        self.part(code([A, G, ("told", [G], []), GIVE], [("told", [LOOK], []), H, ("told", [LOOK], []), FOUND], [FOUND]),
                  code([G, A, ("told", [G], []), GIVE], [("told", [LOOK], []), H, ("told", [LOOK], []), FOUND], [FOUND]), 3)

    def test_looks_see_only_whether_a_cell_is_blank(self):
        self.go_alike(code([A, ("tries", [A, LOOK]), GIVE]), code([A, ("tries", [LOOK]), GIVE]))
        self.go_alike(code([A, G, GIVE], [A, LOOK, GIVE]), code([A, G, GIVE], [LOOK]))
        self.part(code([A, G, GIVE], [BLANK, LOOK, GIVE]), code([A, G, GIVE], [LOOK]), 2, "look", (0,))

    def test_looks_at_other_cells(self):
        self.go_alike(code([A, ("look", "b", [], []), GIVE]), code([("look", "b", [], [])]))
        self.part(code([B, ("look", "b", [], []), GIVEB]), code([A, ("look", "b", [], []), GIVE]), 1, "look", ())

    def test_a_look_that_parts_ahead_of_an_answer(self):
        one = code([A, ("look", "a", [COPY], [COPY]), GIVE])
        other = code([("look", "a", [COPY], [COPY])])
        self.part(one, other, 1, "look", ())

    def test_a_look_that_parts_behind_an_answer(self):
        for one, other in [(A, B), (B, A)]:
            first = code([one, COPY, ("give", one[1]), other, ("look", other[1], [], []), ("give", other[1])])
            self.part(first, code([COPY, ("look", other[1], [], [])]), 1, "answer", ())

    def test_an_answer_behind_looks_of_both_kinds(self):
        # The answer is told only where the look at b comes out so in both codes.
        one = code([B, ("look", "b", [A, COPY], []), GIVE, GIVEB])
        other = code([B, ("look", "b", [COPY], []), GIVEB])
        self.part(one, other, 1, "answer", ())


class Copies(Case):
    def test_worths(self):
        self.part(code([A, COPY, GIVE]), code([COPY]), 1, "answer", ())
        self.part(code([A, B, COPY, GIVE, GIVEB]), code([A, COPY, GIVE]), 1, "answer", ())
        self.go_alike(code([A, COPY, GIVE]), code([A, A, COPY, GIVE]))
        self.go_alike(code([A, COPY, GIVE]), code([B, GIVEB, A, COPY, BLANK]))

    def test_turns(self):
        once = code([A, ("tries", [COPY]), GIVE])
        again = code([A, ("tries", [A, COPY]), GIVE])
        self.part(once, again, 1, "answer", ())
        self.part(code([("tries", [A]), COPY, GIVE]), code([A, ("tries", []), COPY, GIVE]), 1, "answer", ())
        self.go_alike(code([("tries", []), A, COPY, GIVE]), code([("tries", []), A, A, COPY, GIVE]))
        self.go_alike(code([A, ("tries", [COPY]), GIVE]), code([A, A, ("tries", [COPY]), GIVE]))
        self.go_alike(code([("tries", [A, COPY, F]), GIVE]), code([("tries", [A, A, COPY, F]), GIVE]))
        # The worths of turn 0 and of turn 1 are seen in turn 2.
        self.part(code([A, ("tries", [("tries", [COPY])]), GIVE]), code([A, ("tries", [A, ("tries", [COPY])]), GIVE]), 1)
        # Both are put in a round, but not in the same one.
        first, second = ("tries", [A, ("out",)]), ("tries", [])
        self.part(code([first, second, COPY, GIVE]), code([("tries", [("out",)]), ("tries", [A]), COPY, GIVE]), 1)

    def test_a_worth_of_an_outer_visit(self):
        self.part(code([A, G, GIVE], [COPY]), code([G], [COPY]), 2, "answer", (0,))
        self.part(code([A, G, GIVE], [A, COPY, GIVE]), code([A, G, GIVE], [COPY]), 2, "answer", (0,))
        self.go_alike(code([A, G, GIVE], [BLANK, GIVE, COPY]), code([A, G, GIVE], [COPY]))
        # It differs by its turn alone, two visits further in.
        self.part(code([("tries", [A, G]), GIVE], [H], [COPY]), code([A, ("tries", [G]), GIVE], [H], [COPY]), 3, "answer",
                  (0, 0))

    def test_rows_are_the_same_in_both(self):
        self.go_alike(code([PUSH, A, COPY, POP, GIVE]), code([PUSH, A, COPY, A, POP, BLANK]))


class Views(Case):
    def test_views_show_the_end(self):
        self.go_alike(code([A, VIEW, GIVE, PUSH, VIEW, POP]), code([VIEW, PUSH, A, VIEW, POP, GIVE]))

    def test_a_copy_and_a_view(self):
        self.go_alike(code([COPY]), code([VIEW]))
        self.go_alike(code([A, GIVE, COPY, PUSH, POP]), code([A, GIVE, VIEW, PUSH, POP]))
        self.part(code([PUSH, COPY, POP]), code([PUSH, VIEW, POP]), 1, "answer", ())
        self.part(code([A, COPY, GIVE]), code([A, VIEW, GIVE]), 1, "answer", ())
        self.part(code([A, COPY, GIVE]), code([VIEW]), 1, "answer", ())

    def test_only_the_cells_of_the_copy_count(self):
        self.go_alike(code([COPY]), code([A, VIEW, GIVE]))

    def test_in_deeper_visits(self):
        self.part(code([("tries", [PUSH, F, POP]), ("told", [], [COPY])]),
                  code([("tries", [PUSH, F, POP]), ("told", [], [VIEW])]), 2, "answer", (0,))
        self.part(code([A, G, GIVE], [COPY]), code([A, G, GIVE], [VIEW]), 2, "answer", (0,))
        self.go_alike(code([G, A, GIVE], [COPY]), code([G, A, GIVE], [VIEW]))

    def test_a_large_code(self):
        self.go_alike(large_code(), large_code())
        self.part(large_code(), large_code(how="copy"), 3, "answer", (0, 0))

    def test_a_great_puzzle(self):
        middle = [A, B, *required("h", 4), ("told", [FOUND], [])]
        made = []
        for how in (COPY, VIEW):
            functions = [Function("f", [PUSH, *required("g", 5), ("told", [how], []), POP]),
                         Function("g", [("lastly", middle, [GIVE, GIVEB])]), Function("h", COUNTDOWN)]
            made.append(Code(["a", "b"], ["r"], functions, "f"))
        self.part(*made, 306, "answer", ())


class Shapes(unittest.TestCase):
    def other_shape(self, one, other):
        for first, second in [(one, other), (other, one)]:
            with self.assertRaises(OtherShape) as caught:
                alike(first, second)
            self.assertIsInstance(caught.exception, TryError)

    def test_what_may_differ(self):
        one = code([A, ("either", [GIVE, VIEW], [B]), GIVE, G, GIVEB], [("lastly", [], [])])
        other = code([("either", [COPY], []), G], [BLANK, ("lastly", [GIVE], [BLANKB, BLANK])])
        self.assertIsNone(alike(one, other))

    def test_other_names(self):
        one = code([])
        self.other_shape(one, code([], cells=("a",)))
        self.other_shape(one, code([], cells=("b", "a")))
        self.other_shape(one, code([], rows=("r",)))
        self.other_shape(one, code([], rows=("s", "r")))
        self.other_shape(one, code([], []))
        self.other_shape(code([], []), code([], [], start="g"))
        functions = [Function("f", []), Function("g", [])]
        self.other_shape(Code([], [], functions, "f"), Code([], [], functions[::-1], "f"))
        self.other_shape(Code([], [], functions, "f"), Code([], [], [Function("f", []), Function("h", [])], "f"))

    def test_other_statements(self):
        bodies = [[], [COPY], [COPY, COPY], [PUSH, POP], [POP, PUSH, POP], [PUSH, CUT], [F], [FOUND], [("stop", "none")], [MAY],
                  [("fault",)], [("tries", [])], [("tries", [MAY])], [("tries", []), MAY], [("either", [], [])],
                  [("either", [MAY], [])], [("either", [], [MAY])], [("told", [], [])], [("guard", [], [])],
                  [("lastly", [], [])], [("look", "a", [], [])], [("look", "b", [], [])],
                  [("tries", [("out",)])], [("tries", [("again",)])], [("tries", [("either", [("out",)], [])])],
                  [("lastly", [], [("push", "r"), POP])], [("lastly", [("push", "r"), POP], [])]]
        for number, body in enumerate(bodies):
            for other in bodies[:number]:
                self.other_shape(code(body), code(other))
            self.assertIsNone(alike(code(body), code([A, GIVE, *body])))

    def test_other_shape_comes_first(self):
        self.other_shape(code([A]), code([A, MAY]))
        self.other_shape(code([PUSH]), code([]))


class NotClean(unittest.TestCase):
    def raises(self, one, other, function, thing):
        with self.assertRaises(Unclean) as caught:
            alike(one, other)
        self.assertEqual((caught.exception.function, caught.exception.thing), (function, thing))

    def test_the_first_code_comes_first(self):
        fair, wrong, too = code([G], []), code([A, B, G], []), code([G], [B])
        self.raises(fair, wrong, "f", "a")
        self.raises(wrong, fair, "f", "a")
        self.raises(wrong, too, "f", "a")
        self.raises(too, wrong, "g", "b")
        self.raises(too, too, "g", "b")
        self.raises(code([PUSH]), code([A, PUSH]), "f", "r")
        self.raises(code([A, PUSH]), code([PUSH]), "f", "a")

    def test_codes_that_part_must_be_clean_too(self):
        self.raises(code([A, LOOK, GIVE]), code([LOOK, B]), "f", "b")


class Compared(Case):
    """Compared with executions of both codes."""

    def changed(self, dice, part, cells):
        """The part with some changes of cells and some words behind answer changed."""
        found = []
        for statement in part:
            if dice.random() < 0.08:
                found.append((dice.choice(["put", "blank", "give"]), dice.choice(cells)))
            if statement[0] in ("put", "blank", "give"):
                statement = dice.choice([statement, statement, (dice.choice(["put", "blank", "give"]), statement[1]), None])
            elif statement[0] == "answer":
                statement = dice.choice([statement, COPY, VIEW])
            else:
                statement = tuple(self.changed(dice, entry, cells) if isinstance(entry, tuple) else entry
                                  for entry in statement)
            found.extend([statement] if statement is not None else [])
        return found

    def random_pair(self, dice):
        made = clean_code(dice, 9)
        while True:
            functions = [Function(one.name, self.changed(dice, one.body, made.cells)) for one in made.functions]
            if max(function.many for function in functions) <= 14:
                other = Code(made.cells, made.rows, functions, made.start)
                if not broken(other):
                    return made, other

    def test_random_pairs(self):
        dice = random.Random(41)
        parted = 0
        for _ in range(400):
            one, other = self.random_pair(dice)
            puzzles = [puzzle_of(done) for made in (one, other) for done in executions(made, 9, 60)]
            for first, second in [(one, other), (other, one)]:
                partings = [parting(first, second, puzzle) for puzzle in puzzles]
                sizes = [event[2] for event in partings if event is not None]
                if alike(first, second) is None:
                    self.assertEqual(sizes, [])
                else:
                    self.part(first, second, alike(first, second).puzzle.size)
                    self.assertLessEqual(alike(first, second).puzzle.size, min(sizes, default=99999))
                    parted += 1
        self.assertGreater(parted, 60)


class Example(unittest.TestCase):
    def test_the_example_of_the_document(self):
        deeds = [("put", "used"), ("push", "path"), ("answer", "view"), ("deeper", "go"), ("pop", "path")]
        fair = Code(["used"], ["path"], [Function("go", [("tries", deeds + [("give", "used")])])], "go")
        taken = [("put", "used"), ("push", "path"), ("answer", "copy"), ("deeper", "go"), ("pop", "path"), ("give", "used")]
        copied = Code(["used"], ["path"], [Function("go", [("tries", taken)])], "go")
        self.assertEqual([alike(fair, fair), alike(fair, copied).kind, alike(fair, copied).puzzle.size], [None, "answer", 1])


if __name__ == "__main__":
    unittest.main()
