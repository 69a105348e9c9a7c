"""Runs: points 16 to 24 and the heading tryback/runs.py."""

import inspect
import random
import unittest

from samples import MAY, code, executed, random_code, random_puzzle, told_of
from tryback import runs
from tryback.codes import Code, Function
from tryback.puzzles import Puzzle, read_puzzle
from tryback.runs import Answer, Run, Visit, run

A, B, C, D = ("put", "a"), ("put", "b"), ("push", "r"), ("push", "s")
F, G = ("deeper", "f"), ("deeper", "g")
COPY, VIEW = ("answer", "copy"), ("answer", "view")
FOUND, NONE, FAULT = ("stop", "found"), ("stop", "none"), ("fault",)
AGAIN, OUT = ("again",), ("out",)
# What leaves a part, with the way in which a visit ends by it.
ENDS = [(FOUND, "found"), (NONE, "none"), (FAULT, "fault")]


def done(body, spelling=".", other=(), **more):
    """The run of f with this body, and of g with the other one."""
    return run(code(body, other, **more), read_puzzle(spelling))


def inner(body, spelling=".", other=(), **more):
    """The trace without the enter and the leave of the first visit, but with the way of that leave."""
    trace = done(body, spelling, other, **more).trace
    if trace[0] != ("enter", "f") or trace[-1][0] != "leave":
        raise AssertionError(trace)
    return [*trace[1:-1], trace[-1][1]]


class Case(unittest.TestCase):
    def goes(self, body, spelling, expected, other=()):
        """A run has this inner trace."""
        self.assertEqual(inner(body, spelling, other), expected)


class Beginnings(Case):
    def test_blank_cells_and_empty_rows(self):
        for cells in ((), ("a",), ("a", "b", "c")):
            for rows in ((), ("r",), ("r", "s")):
                made = run(Code(cells, rows, [Function("f", [])], "f"), Puzzle())
                contents = ((None,) * len(cells), ((),) * len(rows))
                self.assertEqual((made.cells, made.rows), contents)
                visit = made.visits[0]
                self.assertEqual((visit.cells_in, visit.rows_in, visit.cells_out, visit.rows_out), contents * 2)

    def test_the_start_function_is_visited_with_the_top(self):
        functions = [Function("f", [A]), Function("g", [B]), Function("h", [MAY])]
        for start, trace in [("f", [A]), ("g", [B]), ("h", [])]:
            made = run(Code(["a", "b"], [], functions, start), Puzzle())
            self.assertEqual(made.trace, (("enter", start), *trace, ("leave", "none")))
            self.assertEqual([(one.path, one.function) for one in made.visits], [((), start)])

    def test_each_run_is_a_run_of_its_own(self):
        made, puzzle = code([A, C, COPY, G, ("tries", [D])], [B]), read_puzzle("1(.)")
        first = run(made, puzzle)
        told = told_of(first)
        for _ in range(2):
            again = run(made, puzzle)
            self.assertEqual(told_of(again), told)
            again.visits.clear()
            again.answers.append(None)
        self.assertEqual(told_of(first), told)
        self.assertEqual((puzzle.spelling, made), ("1(.)", code([A, C, COPY, G, ("tries", [D])], [B])))


class Bits(Case):
    def test_either(self):
        body = [("either", [A], [B])]
        for spelling, expected in [("1", A), (".", B), ("0", B), ("01", B), ("11", A)]:
            self.goes(body, spelling, [expected, "none"])
        self.goes([("either", [A], []), ("either", [], [B])], "1", [A, B, "none"])
        self.goes([("either", [A], []), ("either", [], [B])], "01", ["none"])

    def test_may(self):
        self.goes([A, MAY, B], "1", [A, "fault"])
        self.goes([A, MAY, B], ".", [A, B, "none"])
        self.goes([A, MAY, B, MAY, C], "01", [A, B, "fault"])
        self.goes([MAY, A], "01", [A, "none"])

    def test_tries(self):
        body = [("tries", [A]), B]
        for spelling, rounds in [(".", 0), ("01", 0), ("1", 1), ("101", 1), ("11", 2), ("1111101", 5)]:
            self.goes(body, spelling, [A] * rounds + [B, "none"])
        self.goes([("tries", [])], "111", ["none"])
        self.goes([("tries", []), ("either", [A], [B])], "11101", [A, "none"])

    def test_bits_are_used_in_order(self):
        body = [("either", [A], [B]), ("tries", [("either", [C], [D]), MAY]), ("either", [A], [B])]
        self.goes(body, "0" "1" "10" "1" "00" "0" "1", [B, C, D, A, "none"])
        self.goes(body, "1" "1" "11", [A, C, "fault"])
        self.goes(body, "1" "1" "1", [A, C, B, "none"])
        self.goes(body, "0", [B, B, "none"])
        nested = [("tries", [A, ("tries", [B]), C]), D]
        self.goes(nested, "1" "110" "1" "0" "1" "10" "0", [A, B, B, C, A, C, A, B, C, D, "none"])

    def test_zeros_when_no_bit_is_left(self):
        self.goes([MAY] * 14, ".", ["none"])
        self.goes([("either", [A], [B])] * 4, "1", [A, B, B, B, "none"])
        self.goes([("tries", [A]), MAY, ("either", [A], [B])], "111", [A, A, A, B, "none"])

    def test_many_bits(self):
        made = done([("tries", [A])], "1" * 3000)
        self.assertEqual(made.cells, (((), 3000), None))
        self.assertEqual(len(made.trace), 3002)

    def test_each_visit_has_bits_of_its_own(self):
        body = [("tries", [A, G]), ("either", [A], [])]
        expected = [A, ("enter", "g"), B, ("leave", "none"), A, ("enter", "g"), C, ("leave", "fault"), "fault"]
        self.goes(body, "1111(1,01)", expected, [("either", [B], [C]), MAY])


class Deeper(Case):
    def test_the_children_in_order(self):
        body = [G, F, G]
        other = [("either", [A], [B])]
        self.goes(body, ".(1,-,.)", [("enter", "g"), A, ("leave", "none"), ("miss", "f"), ("enter", "g"), B, ("leave", "none"),
                                     "none"], other)
        self.goes(body, ".(-,-,1)", [("miss", "g"), ("miss", "f"), ("enter", "g"), A, ("leave", "none"), "none"], other)
        self.goes(body, ".(1)", [("enter", "g"), A, ("leave", "none"), ("miss", "f"), ("miss", "g"), "none"], other)
        self.goes(body, ".", [("miss", "g"), ("miss", "f"), ("miss", "g"), "none"], other)

    def test_paths(self):
        made = done([("tries", [F, G])], "11(1(-,.),-,-,.,.(.))", [G, G])
        self.assertEqual([(one.path, one.function) for one in made.visits],
                         [((), "f"), ((0,), "f"), ((0, 1), "g"), ((3,), "g")])
        made = done([F, G, F], ".(.(-,.(.,.)),.(-,.),.(.))", [F, G])
        self.assertEqual([(one.path, one.function) for one in made.visits],
                         [((), "f"), ((0,), "f"), ((0, 1), "g"), ((0, 1, 0), "f"), ((0, 1, 1), "g"),
                          ((1,), "g"), ((1, 1), "g"), ((2,), "f"), ((2, 0), "f")])

    def test_calls_in_several_rounds_and_blocks(self):
        made = done([("tries", [("either", [F], [G])]), ("guard", [G, MAY], [F]), ("lastly", [F], [])],
                    "1" "1" "1" "0" "0" "1(.,.,.,.,.)")
        self.assertEqual([(one.path, one.function) for one in made.visits],
                         [((), "f"), ((0,), "f"), ((1,), "g"), ((2,), "g"), ((3,), "f"), ((4,), "f")])

    def test_no_child_does_nothing(self):
        made = done([A, C, F, COPY], ".(-)")
        self.assertEqual(made.way, "none")
        self.assertEqual(len(made.visits), 1)
        self.assertEqual((made.cells, made.rows), ((((), 0), None), ((((), 0),), ())))
        self.assertEqual(made.trace, (("enter", "f"), A, C, ("miss", "f"), COPY, ("leave", "none")))

    def test_children_that_are_not_used(self):
        made = done([F], ".(.(.,.),1(.),.)")
        self.assertEqual([one.path for one in made.visits], [(), (0,), (0, 0)])

    def test_500_visits_and_30_levels(self):
        made = done([("tries", [F])], Puzzle([1] * 499, [Puzzle()] * 499).spelling)
        self.assertEqual([one.path for one in made.visits], [(), *[(number,) for number in range(499)]])
        deep = [("guard", [("tries", [("lastly", [F], [C])])], [])]
        puzzle = Puzzle([1])
        for _ in range(29):
            puzzle = Puzzle([1], [puzzle])
        made = run(code(deep), puzzle)
        self.assertEqual([one.path for one in made.visits], [(0,) * many for many in range(30)])
        self.assertEqual(made.rows[0], tuple(((0,) * many, 1) for many in reversed(range(30))))


class Ways(Case):
    def test_the_three_ways(self):
        for body, way in [([], "none"), ([A], "none"), *[([end], way) for end, way in ENDS], ([MAY], "none")]:
            made = done(body)
            self.assertEqual((made.way, made.visits[0].way, made.trace[-1]), (way, way, ("leave", way)))
        self.assertEqual(done([MAY], "1").way, "fault")

    def test_nothing_is_done_behind_an_end(self):
        for end, way in ENDS:
            for body in ([A, end, B], [A, ("either", [end, B], [end, B]), B], [A, ("told", [], [end, B]), B],
                         [A, ("look", "a", [end, B], []), B], [A, ("tries", [end, B]), B], [A, ("lastly", [end, B], []), B],
                         [A, ("tries", [("tries", [("either", [end], [B]), B])]), B]):
                self.goes(body, "111", [A, way])
                self.assertEqual(done(body, "111").way, way)

    def test_a_stop_ends_the_visit_of_its_own_only(self):
        for end, way in ENDS[:2]:
            self.goes([A, G, B], ".(.)", [A, ("enter", "g"), C, ("leave", way), B, "none"], [C, end, C])

    def test_a_fault_makes_the_caller_fault(self):
        self.goes([A, G, B], ".(.)", [A, ("enter", "g"), C, ("leave", "fault"), "fault"], [C, FAULT])
        made = run(code([G, A], [F, B]), read_puzzle(".(.(.(1)))"))
        self.assertEqual([one.way for one in made.visits], ["none"] * 4)
        made = run(code([G, A], [F, MAY, B]), read_puzzle(".(.(.(1)))"))
        self.assertEqual([one.way for one in made.visits], ["fault"] * 4)
        self.assertEqual(made.trace[-4:], (("leave", "fault"),) * 4)

    def test_told(self):
        told = ("told", [A], [B])
        self.goes([told], ".", [B, "none"])
        self.goes([G, told], ".", [("miss", "g"), B, "none"])
        self.goes([G, told], ".(.)", [("enter", "g"), ("leave", "found"), A, "none"], [FOUND])
        self.goes([G, told], ".(.)", [("enter", "g"), ("leave", "none"), B, "none"], [NONE])
        self.goes([G, told], ".(.)", [("enter", "g"), ("leave", "none"), B, "none"])
        self.goes([("guard", [G], []), told], ".(.)", [("enter", "g"), ("leave", "fault"), B, "none"], [FAULT])

    def test_told_asks_the_last_deeper(self):
        told = ("told", [A], [B])
        ends = ("either", [FOUND], [MAY])
        found, none = [("enter", "g"), ("leave", "found")], [("enter", "g"), ("leave", "none")]
        fault, miss = [("enter", "g"), ("leave", "fault")], [("miss", "g")]
        self.goes([G, told, G, told], ".(1,.)", [*found, A, *none, B, "none"], [ends])
        self.goes([G, told, G, told], ".(.,1)", [*none, B, *found, A, "none"], [ends])
        self.goes([G, told, G, told], ".(1)", [*found, A, *miss, B, "none"], [ends])
        self.goes([G, ("guard", [G], []), told], ".(1,01)", [*found, *fault, B, "none"], [ends])
        self.goes([G, ("guard", [FAULT], []), told, told], ".(1)", [*found, A, A, "none"], [ends])
        self.goes([("tries", [told, G])], "11(1,1)", [B, *found, A, *found, "none"], [ends])

    def test_told_asks_this_visit(self):
        told = ("told", [A], [B])
        self.goes([G, F, told], ".(1,.)", [("enter", "g"), ("leave", "found"), ("enter", "f"), ("miss", "g"), ("miss", "f"), B,
                                           ("leave", "none"), B, "none"], [("either", [FOUND], [])])
        # The called visit found something, this one has not asked yet.
        self.goes([told, G, told], ".(.(1))", [B, ("enter", "g"), ("enter", "g"), ("leave", "found"), A, ("leave", "none"),
                                               B, "none"], [("either", [FOUND], []), G, told])

    def test_look(self):
        look = ("look", "a", [C], [D])
        self.goes([look], ".", [D, "none"])
        self.goes([A, look], ".", [A, C, "none"])
        self.goes([B, look], ".", [B, D, "none"])
        self.goes([A, ("blank", "a"), look], ".", [A, ("blank", "a"), D, "none"])
        self.goes([A, ("give", "a"), look], ".", [A, ("give", "a"), D, "none"])
        self.goes([look, F, look], ".(.)", [D, ("enter", "f"), D, ("miss", "f"), D, ("leave", "none"), D, "none"])
        self.goes([G, look], ".(.)", [("enter", "g"), A, ("leave", "none"), C, "none"], [A])
        self.goes([A, G, look], ".(.)", [A, ("enter", "g"), C, ("leave", "none"), C, "none"], [look])
        self.goes([A, G, look], ".(.)", [A, ("enter", "g"), ("blank", "a"), ("leave", "none"), D, "none"], [("blank", "a")])


class Leaving(Case):
    def test_again(self):
        self.goes([("tries", [A, AGAIN, B]), C], "111", [A, A, A, C, "none"])
        self.goes([("tries", [A, ("either", [AGAIN], []), B]), C], "1110", [A, A, B, C, "none"])
        self.goes([("tries", [("tries", [A, AGAIN, B]), C]), D], "1110", [A, A, C, D, "none"])
        # The turn goes on with each round.
        self.assertEqual(done([("tries", [C, AGAIN, C])], "111").rows[0], (((), 1), ((), 2), ((), 3)))

    def test_out(self):
        self.goes([("tries", [A, OUT, B]), C], "111", [A, C, "none"])
        self.goes([("tries", [A, ("either", [OUT], []), B]), C], "10111", [A, B, A, C, "none"])
        # It uses no bit: the next one is there for the either.
        self.goes([("tries", [A, OUT]), ("either", [B], [C])], "11", [A, B, "none"])
        self.goes([("tries", [A, AGAIN]), ("either", [B], [C])], "101", [A, B, "none"])
        self.goes([("tries", [("tries", [A, OUT, B]), C]), D], "11" "11" "0", [A, C, A, C, D, "none"])

    def test_the_innermost_tries(self):
        for end in (AGAIN, OUT):
            body = [("tries", [A, ("tries", [B, end, B]), C]), D]
            self.goes(body, "11", [A, B, C, D, "none"])
            body = [("tries", [A, ("tries", [B]), end, C]), D]
            self.goes(body, "1101", [A, B, *([A, D] if end == AGAIN else [D]), "none"])

    def test_they_leave_the_blocks_in_between(self):
        for wrap in (lambda end: ("either", [end, B], [end, B]), lambda end: ("told", [B], [end, B]),
                     lambda end: ("look", "a", [end, B], [B]), lambda end: ("guard", [end, B], [B]),
                     lambda end: ("guard", [FAULT], [end, B]), lambda end: ("lastly", [end, B], [])):
            for bit in ("0", "1") if wrap(OUT)[0] == "either" else ("",):
                self.goes([("tries", [A, wrap(OUT), B]), C], "1" + bit + "1", [A, C, "none"])
                self.goes([("tries", [A, wrap(AGAIN), B]), C], "1" + bit + "1" + bit, [A, A, C, "none"])
                self.goes([("tries", [A, ("guard", [wrap(OUT), B], [B]), B]), C], "1" + bit + "1", [A, C, "none"])
                self.goes([("tries", [A, ("lastly", [wrap(AGAIN), B], [D]), B]), C], "1" + bit, [A, D, C, "none"])

    def test_guard(self):
        self.goes([("guard", [A], [B]), C], ".", [A, C, "none"])
        self.goes([("guard", [A, FAULT, A], [B]), C], ".", [A, B, C, "none"])
        self.goes([("guard", [A, MAY, A], [B]), C], "1", [A, B, C, "none"])
        self.goes([("guard", [A, MAY, A], [B]), C], ".", [A, A, C, "none"])
        self.goes([("guard", [("tries", [A, MAY])], [B]), C], "1011", [A, A, B, C, "none"])
        self.goes([("guard", [], [B]), C], ".", [C, "none"])
        self.goes([("guard", [FAULT], []), C], ".", [C, "none"])

    def test_guard_around_calls(self):
        call = [("enter", "g"), A, ("leave", "fault")]
        self.goes([("guard", [G, C], [B]), D], ".(.)", [*call, B, D, "none"], [A, FAULT])
        self.goes([("guard", [G, C], [G, B]), D], ".(.,.)", [*call, *call, "fault"], [A, FAULT])
        self.goes([("guard", [G, C], [G, B]), D], ".(.)", [*call, ("miss", "g"), B, D, "none"], [A, FAULT])
        self.goes([("guard", [F, C], [B]), D], ".(.(1))", [("enter", "f"), ("enter", "f"), ("miss", "f"), C, D, ("leave", "none"),
                                                          C, D, ("leave", "none"), C, D, "none"])
        # From two visits further in.
        made = run(code([("guard", [G, C], [B]), D], [("deeper", "h"), A], third=[FAULT]), read_puzzle(".(.(.))"))
        self.assertEqual(made.trace[1:-1], (("enter", "g"), ("enter", "h"), ("leave", "fault"), ("leave", "fault"), B, D))

    def test_the_block_ends_like_the_second_part(self):
        for end, way in ENDS:
            self.goes([("guard", [A, FAULT], [B, end, B]), C], ".", [A, B, way])
        self.goes([("guard", [("guard", [A, FAULT], [B, FAULT]), C], [D]), A], ".", [A, B, D, A, "none"])
        self.goes([("guard", [("guard", [A, FAULT], [B]), C], [D]), A], ".", [A, B, C, A, "none"])
        self.goes([("tries", [("guard", [A, FAULT], [B, OUT]), C]), D], "11", [A, B, D, "none"])
        self.goes([("tries", [("guard", [A, FAULT], [B, AGAIN]), C]), D], "11", [A, B, A, B, D, "none"])

    def test_a_guard_stops_nothing_else(self):
        for end, way in ENDS[:2]:
            self.goes([("guard", [A, end], [B]), C], ".", [A, way])
        self.goes([("tries", [("guard", [A, OUT], [B]), C]), D], "11", [A, D, "none"])
        self.goes([("tries", [("guard", [A, AGAIN], [B]), C]), D], "11", [A, A, D, "none"])
        for end, way in ENDS[:2]:
            self.goes([("guard", [G, A], [B]), C], ".(.)", [("enter", "g"), ("leave", way), A, C, "none"], [end])

    def test_lastly(self):
        self.goes([("lastly", [A], [B, C]), D], ".", [A, B, C, D, "none"])
        self.goes([("lastly", [], [B]), D], ".", [B, D, "none"])
        for end, way in ENDS:
            self.goes([("lastly", [A, end, A], [B, C]), D], ".", [A, B, C, way])
            self.goes([("lastly", [("either", [A, end], [end])], [B]), D], "1", [A, B, way])
            self.goes([("lastly", [("tries", [A, end])], [B]), D], "1", [A, B, way])
            self.goes([("tries", [("lastly", [A, end], [B]), D]), D], "11", [A, B, way])
        self.goes([("lastly", [A, MAY], [B]), D], "1", [A, B, "fault"])
        self.goes([("tries", [("lastly", [A, OUT], [B]), C]), D], "11", [A, B, D, "none"])
        self.goes([("tries", [("lastly", [A, AGAIN], [B]), C]), D], "11", [A, B, A, B, D, "none"])
        self.goes([("lastly", [("tries", [A, OUT]), C], [B]), D], "11", [A, C, B, D, "none"])

    def test_lastly_around_calls(self):
        for end, way in ENDS:
            call = [A, ("enter", "g"), ("leave", way)]
            rest = [B, "fault"] if end == FAULT else [A, B, D, "none"]
            self.goes([("lastly", [A, G, A], [B]), D], ".(.)", [*call, *rest], [end])

    def test_lastly_inside_lastly(self):
        for end, way in ENDS:
            self.goes([("lastly", [("lastly", [A, end], [B]), A], [C]), D], ".", [A, B, C, way])
        self.goes([("lastly", [("lastly", [A], [B]), A], [C]), D], ".", [A, B, A, C, D, "none"])
        self.goes([("tries", [("lastly", [("lastly", [A, OUT], [B]), A], [C]), A]), D], "11", [A, B, C, D, "none"])
        self.goes([("tries", [("lastly", [("lastly", [A, AGAIN], [B]), A], [C]), A]), D], "1", [A, B, C, D, "none"])

    def test_guard_and_lastly(self):
        self.goes([("guard", [("lastly", [A, FAULT], [B]), A], [C]), D], ".", [A, B, C, D, "none"])
        self.goes([("lastly", [("guard", [A, FAULT], [B]), A], [C]), D], ".", [A, B, A, C, D, "none"])
        self.goes([("lastly", [("guard", [A, FAULT], [B, FAULT]), A], [C]), D], ".", [A, B, C, "fault"])
        self.goes([("guard", [("lastly", [G], [B]), A], [C]), D], ".(.)", [("enter", "g"), ("leave", "fault"), B, C, D, "none"],
                  [FAULT])
        for end, way in ENDS[:2]:
            self.goes([("guard", [("lastly", [A, end], [B]), A], [C]), D], ".", [A, B, way])


class Worths(Case):
    def test_path_and_turn(self):
        self.assertEqual(done([A]).cells, (((), 0), None))
        self.assertEqual(done([("tries", [B])], "111").cells, (None, ((), 3)))
        self.assertEqual(done([("tries", []), A, C], "11").cells, (((), 2), None))
        self.assertEqual(done([("tries", []), ("tries", [A, C])], "11011").rows, ((((), 3), ((), 4)), ()))
        self.assertEqual(done([("tries", [C, ("tries", [C]), C])], "111" "0" "10").rows[0],
                         (((), 1), ((), 2), ((), 3), ((), 3), ((), 4), ((), 4)))
        self.assertEqual(done([G, F], ".(.,.(.))", [A, C]).rows[0], (((0,), 0), ((1, 0), 0)))
        self.assertEqual(done([F, G], ".(-,.)", [A, C]).cells, (((1,), 0), None))

    def test_the_turn_is_of_the_own_visit(self):
        made = done([("tries", [C, G, C])], "11(111,1)", [("tries", [C])])
        self.assertEqual(made.rows[0], (((), 1), ((0,), 1), ((0,), 2), ((0,), 3), ((), 1), ((), 2), ((1,), 1), ((), 2)))

    def test_an_answer_no_does_not_begin_a_round(self):
        self.assertEqual(done([("tries", []), ("tries", []), ("either", [A], []), MAY, A], "0" "0" "1").cells[0], ((), 0))

    def test_blank(self):
        self.assertEqual(done([A, B, ("blank", "a")]).cells, (None, ((), 0)))
        self.assertEqual(done([A, B, ("blank", "b")]).cells, (((), 0), None))
        self.assertEqual(done([("blank", "a")]).cells, (None, None))

    def test_give(self):
        self.assertEqual(done([A, ("give", "a")]).cells, (None, None))
        self.assertEqual(done([A, B, ("give", "b")]).cells, (((), 0), None))
        made = done([A, G], ".(.)", [("blank", "a"), ("give", "a")])
        self.assertEqual(made.cells[0], ((), 0))
        made = done([A, G], "1(.)", [A, B, ("give", "a"), ("give", "b")])
        self.assertEqual(made.cells, (((), 0), None))
        # What was there when the own visit began, not when the one around it did.
        made = done([("tries", [A, G, COPY])], "11(.(.),.)", [A, F, ("give", "a")])
        self.assertEqual([one.told_cells[0] for one in made.answers], [((), 1), ((), 2)])
        made = done([A, G, COPY, ("give", "a")], ".(.)", [A])
        self.assertEqual((made.answers[0].told_cells[0], made.cells[0]), (((0,), 0), None))

    def test_push_and_pop(self):
        self.assertEqual(done([C, D, C]).rows, ((((), 0), ((), 0)), (((), 0),)))
        self.assertEqual(done([("tries", [C]), ("pop", "r")], "111").rows, ((((), 1), ((), 2)), ()))
        self.assertEqual(done([C, D, ("pop", "s")]).rows, ((((), 0),), ()))
        made = done([("pop", "r"), ("pop", "r"), C])
        self.assertEqual((made.rows[0], made.trace[1:3]), ((((), 0),), (("pop", "r"), ("pop", "r"))))
        self.assertEqual(done([C, C, G], ".(.)", [("pop", "r")] * 3).rows, ((), ()))

    def test_cut(self):
        self.assertEqual(done([C, C, C, D, ("cut", "r")]).rows, ((), (((), 0),)))
        self.assertEqual(done([("cut", "r")]).rows, ((), ()))
        mine = (((), 0), ((), 0))
        self.assertEqual(done([C, C, G], ".(.)", [C, C, C, ("cut", "r")]).rows[0], mine)
        self.assertEqual(done([C, C, G], ".(.)", [C, ("cut", "r"), C]).rows[0], (*mine, ((0,), 0)))
        self.assertEqual(done([C, C, G], ".(.)", [("pop", "r"), ("cut", "r")]).rows[0], mine[:1])
        self.assertEqual(done([C, C, G], ".(.)", [("pop", "r"), C, C, ("cut", "r")]).rows[0], (mine[0], ((0,), 0)))
        self.assertEqual(done([C, C, G, ("cut", "r")], ".(.)", [C]).rows[0], ())


class Answers(Case):
    def told(self, made):
        return [(one.how, one.path, one.cells, one.rows, one.told_cells, one.told_rows, one.spoiled) for one in made.answers]

    def test_copies_and_views(self):
        put, item = ((), 0), (((), 0),)
        made = done([COPY, VIEW, A, C, COPY, VIEW, ("blank", "a"), B])
        now = ((None, put), (item, ()))
        blank = ((None, None), ((), ()))
        then = ((put, None), (item, ()))
        self.assertEqual(self.told(made), [
            ("copy", (), *blank, *blank, False), ("view", (), *now, *blank, True),
            ("copy", (), *then, *then, False), ("view", (), *now, *then, True)])

    def test_spoiled_by_cells_or_rows_alone(self):
        for change in (A, B, C, D):
            self.assertEqual([one.spoiled for one in done([COPY, VIEW, change, COPY, VIEW]).answers],
                             [False, True, False, False])
        self.assertEqual(done([VIEW, A, ("blank", "a"), C, ("pop", "r")]).answers[0].spoiled, False)
        self.assertEqual(done([A, VIEW, ("blank", "a"), A]).answers[0].spoiled, False)
        self.assertEqual(done([("tries", [A, VIEW])], "11").answers[0].spoiled, True)
        self.assertEqual(done([C, D, VIEW, ("pop", "r"), C, ("cut", "s"), D]).answers[0].spoiled, False)

    def test_order_and_paths(self):
        made = done([VIEW, G, COPY, G, G], ".(.(.),-,.)", [("told", [], [COPY, F, VIEW])])
        self.assertEqual([(one.how, one.path) for one in made.answers],
                         [("view", ()), ("copy", (0,)), ("view", (0, 0)), ("copy", (0, 0)), ("view", (0,)), ("copy", ()),
                          ("copy", (2,)), ("view", (2,))])
        self.assertEqual(done([A]).answers, [])

    def test_a_cell_may_be_called_copy(self):
        made = run(Code(["copy", "found"], ["view"], [Function("f", [("put", "copy"), COPY, VIEW, ("blank", "copy")])], "f"),
                   Puzzle())
        self.assertEqual([(one.how, one.told_cells) for one in made.answers], [("copy", (((), 0), None)), ("view", (((), 0), None))])
        self.assertEqual((made.cells, made.rows), ((None, None), ((),)))
        self.assertEqual(made.trace[1:-1], (("put", "copy"), COPY, VIEW, ("blank", "copy")))


class Told(Case):
    def test_visits(self):
        made = done([A, G, C, G], ".(.,.)", [("look", "b", [("blank", "a"), FOUND], [B, D])])
        one, two, three = made.visits
        mine, item = ((), 0), (((), 0),)
        theirs, theirs_too = ((0,), 0), (((0,), 0),)
        self.assertEqual([visit.way for visit in made.visits], ["none", "none", "found"])
        self.assertEqual([visit.function for visit in made.visits], ["f", "g", "g"])
        self.assertEqual([visit.path for visit in made.visits], [(), (0,), (1,)])
        self.assertEqual((one.cells_in, one.rows_in), ((None, None), ((), ())))
        self.assertEqual((one.cells_out, one.rows_out), ((None, theirs), (item, theirs_too)))
        self.assertEqual((two.cells_in, two.rows_in), ((mine, None), ((), ())))
        self.assertEqual((two.cells_out, two.rows_out), ((mine, theirs), ((), theirs_too)))
        self.assertEqual((three.cells_in, three.rows_in), ((mine, theirs), (item, theirs_too)))
        self.assertEqual((three.cells_out, three.rows_out), ((None, theirs), (item, theirs_too)))
        self.assertEqual((made.cells, made.rows), (one.cells_out, one.rows_out))

    def test_restored(self):
        for body, restored in [([], True), ([A], False), ([B], False), ([C], False), ([D], False), ([A, ("give", "a")], True),
                               ([C, ("pop", "r")], True), ([A, B, C, D], False), ([COPY], True)]:
            visit = done(body).visits[0]
            self.assertIs(visit.restored, restored)
            self.assertIs(done([A, C, G], ".(.)", body).visits[1].restored, restored)
        self.assertIs(done([A, G], ".(.)", [A]).visits[1].restored, False)
        self.assertIs(done([A, G], ".(.)", [("blank", "a")]).visits[1].restored, False)
        self.assertIs(done([C, G], ".(.)", [("pop", "r")]).visits[1].restored, False)
        self.assertIs(done([C, G], ".(.)", [("pop", "r"), C]).visits[1].restored, False)
        self.assertIs(done([C, G], ".(.)", [C, C, ("cut", "r")]).visits[1].restored, True)
        self.assertIs(done([A, G], "1(.)", [MAY, A, FAULT]).visits[1].restored, False)

    def test_forms(self):
        made = done([A, C, COPY, G], ".(.)", [VIEW, B, D])
        self.assertIsInstance(made, Run)
        self.assertIs(type(made.answers), list)
        self.assertIs(type(made.visits), list)
        self.assertIs(type(made.trace), tuple)
        self.assertEqual({type(pair) for pair in made.trace}, {tuple})
        for one in made.answers:
            self.assertIsInstance(one, Answer)
            self.forms(one.cells, one.rows)
            self.forms(one.told_cells, one.told_rows)
        for one in made.visits:
            self.assertIsInstance(one, Visit)
            self.assertIs(type(one.path), tuple)
            self.forms(one.cells_in, one.rows_in)
            self.forms(one.cells_out, one.rows_out)
        self.forms(made.cells, made.rows)

    def forms(self, cells, rows):
        """Contents are a tuple of worths and a tuple of tuples of items."""
        self.assertIs(type(cells), tuple)
        self.assertIs(type(rows), tuple)
        for worth in [*cells, *[item for row in rows for item in row]]:
            if worth is not None:
                path, turn = worth
                self.assertEqual((type(worth), type(path), type(turn)), (tuple, tuple, int))
        self.assertTrue(all(type(row) is tuple for row in rows))

    def test_traces(self):
        body = [A, ("blank", "a"), ("give", "b"), C, ("pop", "r"), ("cut", "s"), COPY, VIEW, ("either", [G], [F]), MAY,
                ("tries", []), ("guard", [], [])]
        changes = (A, ("blank", "a"), ("give", "b"), C, ("pop", "r"), ("cut", "s"), COPY, VIEW)
        self.assertEqual(done(body, "101").trace, (("enter", "f"), *changes, ("miss", "g"), ("leave", "none")))
        self.assertEqual(done(body, "11").trace, (("enter", "f"), *changes, ("miss", "g"), ("leave", "fault")))
        self.assertEqual(done([F, G], ".(.(-,.),.)", [FOUND]).trace,
                         (("enter", "f"), ("enter", "f"), ("miss", "f"), ("enter", "g"), ("leave", "found"), ("leave", "none"),
                          ("enter", "g"), ("leave", "found"), ("leave", "none")))

    def test_random_codes_and_puzzles(self):
        dice = random.Random(11)
        for _ in range(700):
            made = random_code(dice)
            for _ in range(3):
                puzzle = random_puzzle(dice)
                self.assertEqual(told_of(run(made, puzzle)), executed(made, puzzle).told(),
                                 (made.functions[0].body, made.functions[1].body, puzzle.spelling))


class Interface(Case):
    def test_examples(self):
        search = Function("search", [("tries", [("push", "path"), ("deeper", "search"), ("pop", "path")]),
                                     ("answer", "view")])
        walk = Code([], ["path"], [search], "search")
        made = run(walk, Puzzle([1], [Puzzle()]))
        self.assertEqual(made.trace[:5], (("enter", "search"), ("push", "path"), ("enter", "search"), ("answer", "view"),
                                          ("leave", "none")))
        self.assertEqual([made.way, made.answers[0].told_rows, made.answers[0].rows, [one.spoiled for one in made.answers]],
                         ["none", ((((), 1),),), ((),), [True, False]])

    def test_names_and_places(self):
        for defined in (run, Run, Answer, Visit):
            self.assertEqual(defined.__module__, "tryback.runs")
        self.assertTrue(all(inspect.isclass(one) for one in (Run, Answer, Visit)))
        self.assertIsInstance(vars(Answer)["spoiled"], property)
        self.assertIsInstance(vars(Visit)["restored"], property)
        self.assertEqual(list(inspect.signature(runs.run).parameters), ["code", "puzzle"])
        made = run(code=code([A, COPY]), puzzle=Puzzle())
        for one, names in [(made, ["way", "cells", "rows", "answers", "visits", "trace"]),
                           (made.answers[0], ["how", "path", "cells", "rows", "told_cells", "told_rows"]),
                           (made.visits[0], ["path", "function", "way", "cells_in", "rows_in", "cells_out", "rows_out"])]:
            for name in names:
                self.assertIn(name, vars(one))


if __name__ == "__main__":
    unittest.main()
