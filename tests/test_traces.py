"""Traces: points 25 to 27 and the heading tryback/traces.py."""

import inspect
import random
import unittest

from samples import MAY, code, executed, random_code, random_puzzle, readings_of
from tryback import traces
from tryback.codes import Code, Function
from tryback.puzzles import Puzzle, read_puzzle
from tryback.runs import run
from tryback.traces import another, maker, makers

A, B, C, D = ("put", "a"), ("put", "b"), ("push", "r"), ("push", "s")
F, G = ("deeper", "f"), ("deeper", "g")
FOUND, NONE, FAULT = ("stop", "found"), ("stop", "none"), ("fault",)
AGAIN, OUT = ("again",), ("out",)


def one(*pairs, way="none", function="f"):
    """The trace of a visit with these pairs."""
    return (("enter", function), *pairs, ("leave", way))


class Case(unittest.TestCase):
    def spelled(self, puzzle):
        return None if puzzle is None else puzzle.spelling

    def makes(self, made, trace, spelling):
        """This puzzle is the maker, and its run has only the visits that the puzzle has nodes."""
        for given in (tuple(trace), list(trace)):
            self.assertEqual(self.spelled(maker(made, given)), spelling, (trace, spelling))
        self.check(made, trace, maker(made, trace))

    def check(self, made, trace, puzzle):
        done = executed(made, puzzle)
        self.assertEqual(done.trace, list(trace))
        self.assertEqual(sorted(done.readings), puzzle.paths())
        return done.readings

    def none_makes(self, made, *given):
        for trace in given:
            for kind in (tuple, list):
                self.assertIsNone(maker(made, kind(trace)), trace)
                self.assertIsNone(another(made, kind(trace)), trace)
                self.assertEqual(makers([made], kind(trace)), [], trace)

    def sole(self, made, trace, spelling):
        """This puzzle is the maker, and the trace determines all readings."""
        self.makes(made, trace, spelling)
        self.assertIsNone(another(made, tuple(trace)))
        self.assertIsNone(another(made, list(trace)))
        self.assertEqual(makers([made], trace), [0])

    def several(self, made, trace, spelling, others=None):
        """This puzzle is the maker; another one has other readings, and is one of the others if these are all."""
        self.makes(made, trace, spelling)
        readings = self.check(made, trace, maker(made, trace))
        for kind in (tuple, list):
            other = another(made, kind(trace))
            self.assertNotEqual(self.check(made, trace, other), readings)
            self.assertIsInstance(other, Puzzle)
            if others is not None:
                self.assertIn(other.spelling, others)
        self.assertEqual(makers([made], trace), [0])


class Readings(Case):
    def test_no_bits(self):
        self.sole(code([]), one(), ".")
        self.sole(code([A, C, ("cut", "r"), ("give", "b"), ("blank", "a"), ("answer", "copy"), ("answer", "view")]),
                  one(A, C, ("cut", "r"), ("give", "b"), ("blank", "a"), ("answer", "copy"), ("answer", "view")), ".")
        self.sole(code([A, FOUND, B]), one(A, way="found"), ".")
        self.sole(code([A, FAULT, B]), one(A, way="fault"), ".")
        self.sole(code([A, NONE, B]), one(A), ".")

    def test_bits_that_the_trace_determines(self):
        made = code([("either", [A], [B]), ("tries", [C]), MAY, D])
        for trace, spelling in [(one(A, D), "1"), (one(B, D), "."), (one(B, C, D), "01"), (one(A, C, C, C, D), "1111"),
                                (one(B, way="fault"), "001"), (one(A, C, C, way="fault"), "11101")]:
            self.sole(made, trace, spelling)

    def test_the_shortest_reading(self):
        # Zeros that are used when no bit is left belong to a reading: 00 is longer than 1.
        self.several(code([("either", [A], [MAY, A])]), one(A), "1", ["."])
        self.several(code([("either", [A], [MAY, MAY, MAY, A])]), one(A), "1", ["."])
        self.several(code([("either", [MAY, A], [A])]), one(A), ".", ["1"])
        self.several(code([("either", [MAY, MAY, A], [("either", [B], [MAY, A])])]), one(A), ".", ["1"])
        self.several(code([("either", [("either", [A], [B])], [MAY, MAY, A])]), one(A), "11", ["."])
        self.several(code([("tries", [("either", [A, OUT], [])])]), one(A), "11")
        self.several(code([("tries", [("tries", [A])])]), one(A, A), "111")
        self.several(code([("either", [], [MAY, ("either", [B], [("tries", [C])])]), A]), one(A), "1", ["."])

    def test_the_first_one_of_the_shortest(self):
        self.several(code([("either", [A], [A])]), one(A), ".", ["1"])
        self.several(code([("either", [MAY], [MAY]), A]), one(A), ".", ["1"])
        self.several(code([("either", [("either", [A], [B])], [("either", [A], [B])])]), one(A), "01", ["11"])
        self.several(code([("either", [("either", [B], [A])], [("either", [A], [B])])]), one(A), "01", ["1"])
        self.several(code([("either", [A], [A]), ("either", [B], [C]), ("either", [], [])]), one(A, B), "01")
        self.several(code([("tries", [("either", [A], [A, AGAIN]), ("tries", [])])]), one(A, A), "101")
        self.several(code([("either", [], [("tries", [A])]), ("tries", [A])]), one(A), "11")
        self.several(code([("either", [("tries", [A])], [MAY, ("tries", [A])])]), one(A, A), "111", ["0011"])

    def test_rounds_that_show_nothing(self):
        self.several(code([("tries", [])]), one(), ".")
        self.several(code([("tries", []), A, ("tries", [B])]), one(A, B), "01")
        self.several(code([("tries", [("either", [A], [])])]), one(A, A), "1111")
        self.several(code([("tries", [("guard", [MAY, A], [])])]), one(A), "1")
        self.sole(code([("tries", [A, ("tries", [B])])]), one(A, B, B, A), "11101")

    def test_several_visits(self):
        made = code([("either", [A], [B]), G, ("tries", [G])], [("either", [C], [D]), ("tries", [FAULT])])
        trace = one(A, *one(C, function="g"), *one(D, function="g"), ("miss", "g"))
        self.sole(made, trace, "111(1,.)")
        trace = one(B, ("miss", "g"), *one(D, function="g"), *one(C, way="fault", function="g"), way="fault")
        self.sole(made, trace, "011(-,.,11)")
        self.sole(made, one(A, ("miss", "g"), ("miss", "g")), "11")

    def test_each_visit_has_its_own_shortest_reading(self):
        both = [("either", [MAY, C], [C])]
        made = code([("either", [A], [MAY, A]), G, G], both)
        trace = one(A, *one(C, function="g"), *one(C, function="g"))
        self.several(made, trace, "1(.,.)", [".(.,.)", "1(1,.)", "1(.,1)", "1(1,1)", ".(1,.)", ".(.,1)", ".(1,1)"])
        # Only the last visit has another reading.
        made = code([A, G, G], [("tries", [B, OUT]), ("either", [D, FOUND], [("either", [C], [C])])])
        trace = one(A, *one(D, way="found", function="g"), *one(C, function="g"))
        self.several(made, trace, ".(01,.)", [".(01,001)"])
        trace = one(A, *one(B, D, way="found", function="g"), *one(B, D, way="found", function="g"))
        self.sole(made, trace, ".(11,11)")

    def test_ways_of_calls(self):
        made = code([("guard", [G, A], [B]), ("told", [C], [D])],
                    [("either", [FOUND], [("either", [FAULT], [("either", [NONE], [])])])])
        self.sole(made, one(*one(way="found", function="g"), A, C), ".(1)")
        self.sole(made, one(*one(way="fault", function="g"), B, D), ".(01)")
        self.several(made, one(*one(function="g"), A, D), ".(.)", [".(001)"])
        self.sole(made, one(("miss", "g"), A, D), ".")
        self.none_makes(made, one(*one(way="found", function="g"), B, C), one(*one(way="found", function="g"), A, D),
                        one(*one(way="fault", function="g"), A, D), one(*one(way="fault", function="g"), B, C),
                        one(*one(function="g"), A, C), one(("miss", "g"), A, C), one(("miss", "g"), B, D),
                        one(*one(way="fault", function="g"), way="fault"))

    def test_told_asks_the_last_call_of_this_visit(self):
        told = ("told", [C], [D])
        made = code([told, G, told, G, told], [("either", [FOUND], [])])
        found, none, miss = one(way="found", function="g"), one(function="g"), (("miss", "g"),)
        for first, second, trace, spelling in [(found, none, (D, C, D), ".(1,.)"), (none, found, (D, D, C), ".(.,1)"),
                                               (found, miss, (D, C, D), ".(1)"), (miss, found, (D, D, C), ".(-,1)"),
                                               (found, found, (D, C, C), ".(1,1)")]:
            self.sole(made, one(trace[0], *first, trace[1], *second, trace[2]), spelling)
            self.none_makes(made, one(trace[0], *first, trace[1], *second, C if trace[2] == D else D))
        made = code([G, ("told", [A], [B])], [F, ("told", [C], [D])])
        self.none_makes(made, one(*one(*one(("miss", "g"), B), C, function="g"), A))
        self.sole(made, one(*one(*one(("miss", "g"), B), D, function="g"), B), ".(.(.))")

    def test_cells_that_are_looked_at(self):
        look = ("look", "a", [C], [D])
        self.sole(code([look, A, look, ("blank", "a"), look]), one(D, A, C, ("blank", "a"), D), ".")
        self.none_makes(code([look, A, look, ("blank", "a"), look]), one(C, A, C, ("blank", "a"), D),
                        one(D, A, D, ("blank", "a"), D), one(D, A, C, ("blank", "a"), C))
        self.sole(code([A, ("give", "a"), look]), one(A, ("give", "a"), D), ".")
        self.sole(code([B, look]), one(B, D), ".")
        # A give gives back what was there when the own visit began.
        made = code([("either", [A], []), G, look], [("either", [A], [("blank", "a")]), ("give", "a"), look])
        for first, filled, spelling in [((A,), C, "1"), ((), D, ".")]:
            for change, inner in [(A, "1"), (("blank", "a"), ".")]:
                trace = one(*first, *one(change, ("give", "a"), filled, function="g"), filled)
                self.sole(made, trace, f"{spelling}({inner})")
                other = C if filled == D else D
                self.none_makes(made, one(*first, *one(change, ("give", "a"), filled, function="g"), other),
                                one(*first, *one(change, ("give", "a"), other, function="g"), filled))

    def test_a_cell_that_a_called_visit_blanks(self):
        look = ("look", "a", [C], [D])
        made = code([A, G, look], [("blank", "a"), look, A, look, ("give", "a"), look, ("blank", "a")])
        trace = one(A, *one(("blank", "a"), D, A, C, ("give", "a"), C, ("blank", "a"), function="g"), D)
        self.sole(made, trace, ".(.)")
        for at, pair in enumerate(trace):
            if pair in (C, D):
                self.none_makes(made, (*trace[:at], C if pair == D else D, *trace[at + 1:]))

    def test_a_look_tells_which_bits_there_were(self):
        made = code([("either", [("either", [A], []), ("look", "a", [C], [FAULT])], [A, C])])
        self.several(made, one(A, C), ".", ["11"])
        self.sole(made, one(way="fault"), "1")
        made = code([("look", "a", [("either", [C], [D])], [("either", [D], [C])]), A, F])
        self.sole(made, one(D, A, *one(C, A, ("miss", "f"))), "1(1)")
        self.sole(made, one(C, A, *one(D, A, ("miss", "f"))), ".(.)")

    def test_leaving_blocks(self):
        made = code([("tries", [A, ("lastly", [("either", [C, OUT], [AGAIN])], [B]), FAULT]), D])
        self.sole(made, one(A, C, B, D), "11")
        self.sole(made, one(A, B, D), "1")
        self.sole(made, one(A, B, A, C, B, D), "1011")
        self.sole(made, one(A, B, A, B, D), "101")
        self.none_makes(made, one(A, C, D), one(A, D), one(A, C, B, A, B, D), one(A, B), one(A, B, D, D),
                        one(A, B, way="fault"), one(A, C, B, way="fault"))
        made = code([("guard", [("lastly", [A, MAY, ("either", [FOUND], [])], [B])], [C])])
        self.sole(made, one(A, B, C), "1")
        self.sole(made, one(A, B, way="found"), "01")
        self.sole(made, one(A, B), ".")
        self.none_makes(made, one(A, C), one(A, B, C, way="found"), one(A, way="found"), one(A, B, way="fault"))

    def test_only_the_nodes_that_are_visited(self):
        made = code([("tries", [G]), ("tries", [F])], [("tries", [F])])
        puzzle = read_puzzle("1110111(-,1(.,1(1)),-,.,1(0(1,1),1),.(.),1,1)")
        trace = run(made, puzzle).trace
        self.check(made, trace, maker(made, trace))
        self.assertEqual(maker(made, one(("miss", "g"), ("miss", "g"))).children, ())
        self.assertEqual(maker(made, one(("miss", "g"), *one(function="g"))).spelling, "11(-,.)")

    def test_a_cell_called_copy(self):
        made = Code(["copy", "none"], ["view"],
                    [Function("f", [("answer", "copy"), ("look", "copy", [FAULT], []), ("put", "copy"), ("answer", "view"),
                                    ("answer", "copy"), ("look", "copy", [], [FAULT])])], "f")
        self.sole(made, one(("answer", "copy"), ("put", "copy"), ("answer", "view"), ("answer", "copy")), ".")


class Refused(Case):
    def test_traces_that_end_too_early_or_too_late(self):
        made = code([A, G, B], [C])
        trace = one(A, *one(C, function="g"), B)
        self.sole(made, trace, ".(.)")
        for many in range(len(trace)):
            self.none_makes(made, trace[:many], trace[many + 1:])
        for more in (*trace, ("miss", "g"), ("leave", "found"), ("leave", "fault"), ("other", "f")):
            self.none_makes(made, (*trace, more), (more, *trace))
        self.none_makes(made, trace + trace, (), (("leave", "none"),), (("enter", "f"),), (A,), (("enter", "f"),) * 2)
        self.none_makes(code([]), one() + one(), (("leave", "none"), ("enter", "f")), (*one(), ("leave", "none")))
        for word in ("miss", "leave", "enter", "put", "push", "deeper", "answer", "no", ""):
            self.none_makes(made, ((word, "f"),), ((word, "f"), (word, "f")), ((word, "f"), ("leave", "none")))
        self.none_makes(code([F]), one() + one(), one(*one(), *one()), one(("enter", "f")))

    def test_pairs_that_no_run_has(self):
        made = code([A, G, B, C, ("answer", "copy")], [D])
        trace = one(A, *one(D, function="g"), B, C, ("answer", "copy"))
        self.sole(made, trace, ".(.)")
        wrong = [("put", "x"), ("put", ""), ("give", "x"), ("blank", "zzz"), ("push", "a"), ("put", "r"), ("PUT", "a"), ("a", "put"),
                 ("enter", "x"), ("enter", ""), ("enter", "a"), ("leave", "x"), ("leave", ""), ("leave", "f"), ("leave", "again"),
                 ("leave", "out"), ("miss", "x"), ("miss", "a"), ("miss", "f"), ("answer", "x"), ("answer", "view"), ("deeper", "g"),
                 ("deeper", "f"), ("stop", "none"), ("stop", "found"), ("either", "1"), ("tries", "0"), ("may", ""), ("", ""),
                 ("look", "a"), ("told", "found"), ("fault", "g"), ("again", "f"), ("next", "on"), ("do", "a"), ("end", "none"),
                 ("cut", "r"), ("pop", "nothing"), ("enter", "f"), ("enter", "g"), ("leave", "found"), ("leave", "fault")]
        for pair in wrong:
            for at in range(len(trace)):
                if trace[at] != pair:
                    self.none_makes(made, (*trace[:at], pair, *trace[at + 1:]))
            for at in range(len(trace) + 1):
                self.none_makes(made, (*trace[:at], pair, *trace[at:]))
        self.none_makes(code([A, ("tries", [G])]), one(A, *one(function="g"), *one(function="h")),
                        one(A, *one(function="x"), *one(function="g")))
        # Words of statements that are not shown in a trace.
        self.none_makes(code([G, MAY, ("stop", "found")]), one(("deeper", "g"), way="found"), one(("miss", "g"), ("stop", "found")))

    def test_other_functions(self):
        made = code([A], [A])
        self.none_makes(made, one(A, function="g"), one(A, function="x"), one(A, function=""))
        self.sole(Code(["a"], [], [Function("f", [A]), Function("g", [A])], "g"), one(A, function="g"), ".")
        self.none_makes(code([G], [A], third=[A]), one(*one(A, function="h")), one(*one(A, function="f")),
                        one(("miss", "h")), one(("miss", "f")))

    def test_wrong_ways(self):
        for body, way in [([A, FOUND], "found"), ([A, NONE], "none"), ([A], "none"), ([A, FAULT], "fault")]:
            for told in ("found", "none", "fault", "again", ""):
                if told == way:
                    self.sole(code(body), one(A, way=told), ".")
                    self.sole(code([("guard", [G], [])], body), one(*one(A, way=told, function="g")), ".(.)")
                else:
                    self.none_makes(code(body), one(A, way=told))
                    self.none_makes(code([("guard", [G], [])], body), one(*one(A, way=told, function="g")))

    def test_30_levels_and_31(self):
        made = code([F])
        deep = one(("miss", "f"))
        for many in range(2, 35):
            deep = one(*deep)
            if many <= 30:
                self.sole(made, deep, ".(" * (many - 1) + "." + ")" * (many - 1))
            else:
                self.none_makes(made, deep)
        # Another reading does not help.
        made = code([("either", [], []), ("tries", [F])])
        deep = one()
        for many in range(2, 35):
            deep = one(*deep)
            if many <= 30:
                self.several(made, deep, "01(" * (many - 1) + "." + ")" * (many - 1))
            else:
                self.none_makes(made, deep)
        self.none_makes(made, (("enter", "f"),) * 3000 + (("leave", "none"),) * 3000)

    def test_many_pairs(self):
        made = code([("tries", [F, C])])
        self.sole(made, one(*(("miss", "f"), C) * 59), "1" * 59)
        self.sole(made, one(*(*one(), C) * 39), "1" * 39 + "(" + ",".join(["."] * 39) + ")")
        self.sole(made, one(*(*one(), C) * 499), "1" * 499 + "(" + ",".join(["."] * 499) + ")")
        self.none_makes(made, one(*(*one(), C) * 500))
        made = code([("tries", [("either", [("tries", [G])], [MAY, G])]), ("guard", [MAY], [("tries", [MAY])])])
        trace = one(*[("miss", "g")] * 118)
        self.assertEqual(len(trace), 120)
        self.several(made, trace, "11" + "1" * 118)


class Lists(Case):
    def test_makers(self):
        one_code, other, third = code([A]), code([("either", [A], [B])]), code([B])
        self.assertEqual(makers([one_code, other, third], one(A)), [0, 1])
        self.assertEqual(makers((one_code, other, third), list(one(B))), [1, 2])
        self.assertEqual(makers([third, other, third, other, one_code, one_code], one(A)), [1, 3, 4, 5])
        self.assertEqual(makers([one_code] * 3, one(A)), [0, 1, 2])
        self.assertEqual(makers([one_code] * 3, one(B)), [])
        self.assertEqual(makers([], one(A)), [])
        self.assertEqual(makers((), ()), [])
        self.assertEqual(makers([one_code, third], one(C)), [])
        self.assertIs(type(makers((one_code,), one(A))), list)

    def test_makers_with_other_names(self):
        codes = [Code(cells, [], [Function(name, [("put", cell)])], name)
                 for cells, name, cell in [(["a"], "f", "a"), (["b"], "f", "b"), (["a"], "g", "a"), (["b", "a"], "f", "a")]]
        self.assertEqual(makers(codes, one(A)), [0, 3])
        self.assertEqual(makers(codes, one(B)), [1])
        self.assertEqual(makers(codes, one(A, function="g")), [2])

    def test_pairs_as_lists(self):
        made, trace = code([A, G], [C]), one(A, *one(C, function="g"))
        self.assertEqual(maker(made, [list(pair) for pair in trace]).spelling, ".(.)")
        self.assertIsNone(maker(made, [list(pair) for pair in trace[1:]]))

    def test_nothing_that_is_given_is_changed(self):
        made = code([("tries", [A, G])], [MAY])
        trace = list(one(A, *one(function="g"), A, ("miss", "g")))
        kept = list(trace)
        codes = [made, made]
        for _ in range(2):
            self.assertEqual(maker(made, trace).spelling, "11(.)")
            self.assertIsNone(another(made, trace))
            self.assertEqual(makers(codes, trace), [0, 1])
            makers(codes, trace).clear()
        self.assertEqual(trace, kept)
        self.assertEqual(codes, [made, made])


class Random(Case):
    def test_traces_of_runs(self):
        dice = random.Random(21)
        alone = 0
        for _ in range(500):
            made = random_code(dice)
            for _ in range(2):
                trace = tuple(executed(made, random_puzzle(dice)).trace)
                readings = self.check(made, trace, maker(made, trace))
                other = another(made, trace)
                if other is not None:
                    self.assertNotEqual(self.check(made, trace, other), readings)
                bits = sum(len(reading) for reading in readings.values())
                if len(trace) <= 24 and bits <= 6:
                    self.compare(made, trace, readings, bits, other)
                    alone += other is None
        self.assertGreater(alone, 100)

    def compare(self, made, trace, readings, bits, other):
        """Compare with all readings that have few more bits."""
        all_readings = readings_of(made, trace, bits + 3)
        for path, reading in readings.items():
            best = min(all_readings[path], key=lambda one: (len(one), one))
            self.assertEqual(tuple(reading), best, (made.functions[0].body, made.functions[1].body, trace))
        if other is None:
            self.assertEqual({len(found) for found in all_readings.values()}, {1})

    def test_changed_traces(self):
        dice = random.Random(22)
        counts = {True: 0, False: 0}
        for _ in range(500):
            made = random_code(dice)
            trace = list(executed(made, random_puzzle(dice, 3)).trace)
            for _ in range(4 if len(trace) < 14 else 0):
                changed = self.changed(dice, trace)
                found = maker(made, changed)
                counts[found is None] += 1
                if found is not None:
                    self.check(made, changed, found)
                else:
                    self.assertEqual(readings_of(made, changed, 9), {}, (made.functions[0].body, made.functions[1].body, changed))
        self.assertGreater(min(counts.values()), 30)

    def changed(self, dice, trace):
        """The trace without a pair, or with one doubled, exchanged or put in."""
        at, other = dice.randrange(len(trace)), dice.randrange(len(trace))
        new = dice.choice([trace[other], A, B, C, ("miss", "g"), ("miss", "f"), ("leave", "found"), ("answer", "copy")])
        return dice.choice([trace[:at] + trace[at + 1:], trace[:at] + [new] + trace[at:], trace[:at] + [new] + trace[at + 1:]])


class Interface(Case):
    def test_examples(self):
        search = Function("search", [("tries", [("push", "path"), ("deeper", "search"), ("pop", "path")]),
                                     ("answer", "view")])
        walk = Code([], ["path"], [search], "search")
        small = Puzzle([1], [Puzzle()])
        done = run(walk, small)
        self.assertEqual([maker(walk, done.trace) == small, another(walk, done.trace), maker(walk, done.trace[1:])],
                         [True, None, None])

    def test_names_and_places(self):
        for defined, names in [(maker, ["code", "trace"]), (another, ["code", "trace"]), (makers, ["codes", "trace"])]:
            self.assertEqual(defined.__module__, "tryback.traces")
            self.assertEqual(list(inspect.signature(defined).parameters), names)
        self.assertIs(traces.maker, maker)
        self.assertIsInstance(maker(code=code([]), trace=one()), Puzzle)


if __name__ == "__main__":
    unittest.main()
