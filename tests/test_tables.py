"""What calls do to cells: points 33 and 34 and the heading tryback/tables.py."""

import itertools
import random
import unittest

from samples import (MAY, dense_code, executed_with_flags, executions, flags_of, great_code, how_of, size_of)
from tryback.codes import Code, Function
from tryback.errors import NoContext, NoWay, TooGreat
from tryback.puzzles import Puzzle
from tryback.tables import Maps, maps

A, B, BLANK, GIVE = ("put", "a"), ("put", "b"), ("blank", "a"), ("give", "a")
F, G = ("deeper", "f"), ("deeper", "g")
FOUND, NONE, FAULT = ("stop", "found"), ("stop", "none"), ("fault",)
K, X, C = "kept", "blanked", "changed"
WAYS = ["found", "none", "fault"]
HOWS = [K, X, C]


def told(*outs):
    """Outs for one cell."""
    return tuple((way, (how,), size) for way, how, size in outs)


def with_flag(flag, body, other=()):
    """The outs of f with this body and this flag for its one cell; the start visit may fill it or not."""
    start = [("either", [A], []), ("guard", [F], []), BLANK, ("guard", [G], [])]
    made = Code(["a"], [], [Function("s", start), Function("f", body), Function("g", other)], "s")
    return maps(made).outs("f", (flag,))


class OneCell(unittest.TestCase):
    def goes(self, body, blank, filled, other=()):
        """The outs of a function with the flag True, and with the flag False."""
        self.assertEqual(with_flag(True, body, other), told(*blank))
        self.assertEqual(with_flag(False, body, other), told(*filled))

    def test_one_statement(self):
        kept = [("none", K, 1)]
        self.goes([], kept, kept)
        self.goes([A], [("none", C, 1)], [("none", C, 1)])
        self.goes([BLANK], kept, [("none", X, 1)])
        self.goes([GIVE], kept, kept)
        self.goes([("answer", "copy"), ("answer", "view")], kept, kept)

    def test_the_last_change_counts(self):
        for first in (A, BLANK, GIVE):
            self.goes([first, A], [("none", C, 1)], [("none", C, 1)])
            self.goes([first, BLANK], [("none", K, 1)], [("none", X, 1)])
            self.goes([first, GIVE], [("none", K, 1)], [("none", K, 1)])

    def test_ways_and_their_order(self):
        every = [("either", [A], [("either", [BLANK], [])]), ("may",), ("either", [FOUND], [])]
        filled = [(way, how, 1) for way in WAYS for how in HOWS]
        self.goes(every, [out for out in filled if out[1] != X], filled)
        self.goes([FAULT], [("fault", K, 1)], [("fault", K, 1)])
        self.goes([FOUND, A], [("found", K, 1)], [("found", K, 1)])
        self.goes([NONE, A], [("none", K, 1)], [("none", K, 1)])

    def test_a_look_that_one_flag_lets_through(self):
        self.goes([("look", "a", [FOUND], [FAULT])], [("fault", K, 1)], [("found", K, 1)])
        self.goes([BLANK, ("look", "a", [FOUND], [])], [("none", K, 1)], [("none", X, 1)])
        self.goes([BLANK, GIVE, ("look", "a", [FOUND], [])], [("none", K, 1)], [("found", K, 1)])
        self.goes([A, ("look", "a", [FOUND], [])], [("found", C, 1)], [("found", C, 1)])

    def test_a_call_without_a_child_comes_back_with_none_and_does_nothing(self):
        self.goes([G], [("none", K, 1), ("none", C, 2)], [("none", K, 1), ("none", C, 2)], [A])
        self.goes([G, ("told", [FAULT], [FOUND])], [("found", K, 1), ("fault", C, 2)],
                  [("found", K, 1), ("fault", C, 2)], [A, FOUND])

    def test_what_a_call_does(self):
        self.goes([G, FOUND], [("found", K, 1)], [("found", K, 1), ("found", X, 2)], [BLANK])
        self.goes([A, G, FOUND], [("found", K, 2), ("found", C, 1)], [("found", X, 2), ("found", C, 1)], [BLANK])
        self.goes([A, G, FOUND], [("found", C, 1)], [("found", C, 1)], [A, GIVE])
        self.goes([G, GIVE], [("none", K, 1)], [("none", K, 1)], [A])
        self.goes([BLANK, G, FOUND], [("found", K, 1), ("found", C, 2)], [("found", X, 1), ("found", C, 2)], [A])

    def test_told_behind_each_way(self):
        for way, expected in [(FOUND, "found"), (NONE, "none"), (FAULT, "none")]:
            body = [("guard", [G], []), ("told", [A, FOUND], [A])]
            outs = [("none", C, 1)] if expected == "none" else [("found", C, 2), ("none", C, 1)]
            self.goes(body, outs, outs, [way])

    def test_told_tells_of_the_last_call_only(self):
        body = [G, G, ("told", [FOUND], [])]
        self.goes(body, [("found", K, 2), ("none", K, 1)], [("found", K, 2), ("none", K, 1)], [FOUND])
        self.goes([("told", [FOUND], [])], [("none", K, 1)], [("none", K, 1)])

    def test_a_call_that_faults(self):
        both = [("none", K, 1), ("fault", K, 2)]
        self.goes([G], both, both, [FAULT])
        both = [("found", K, 2), ("none", K, 1)]
        self.goes([("guard", [G], [FOUND])], both, both, [FAULT])
        outs = [("none", C, 1), ("fault", C, 2)]
        self.goes([("lastly", [G], [A])], outs, outs, [FAULT])

    def test_blocks(self):
        both = [("none", K, 1), ("none", C, 1)]
        self.goes([("either", [A], [])], both, both)
        self.goes([("tries", [A])], both, both)
        self.goes([("tries", [A, ("out",), BLANK])], both, both)
        self.goes([("tries", [A, ("again",), BLANK])], both, both)
        self.goes([("guard", [("may",), A], [])], both, both)
        self.goes([("lastly", [A], [GIVE])], [("none", K, 1)], [("none", K, 1)])
        self.goes([MAY], [("none", K, 1), ("fault", K, 1)], [("none", K, 1), ("fault", K, 1)])


class Contexts(unittest.TestCase):
    def test_functions_that_nobody_calls(self):
        functions = [Function("f", [A, G]), Function("g", [FOUND]), Function("h", [A, F])]
        found = maps(Code(["a"], [], functions, "g"))
        self.assertEqual(found.contexts, (("g", (True,)),))
        found = maps(Code(["a"], [], functions, "f"))
        self.assertEqual(found.contexts, (("f", (True,)), ("g", (False,))))
        for function, flags in [("g", (True,)), ("f", (False,)), ("h", (True,)), ("x", (True,)), ("f", ())]:
            with self.assertRaises(NoContext) as caught:
                found.outs(function, flags)
            self.assertEqual((caught.exception.function, caught.exception.flags), (function, flags))

    def test_calls_that_are_never_come_to(self):
        for body in ([FAULT, G], [FOUND, G], [("look", "a", [G], [])], [("told", [G], [])], [("tries", [("out",), G])]):
            found = maps(Code(["a"], [], [Function("f", body), Function("g", [])], "f"))
            self.assertEqual(found.contexts, (("f", (True,)),))

    def test_a_function_that_calls_itself(self):
        found = maps(Code(["a"], [], [Function("f", [A, F, ("told", [BLANK], []), ("either", [FOUND], [])])], "f"))
        self.assertEqual(found.contexts, (("f", (False,)), ("f", (True,))))
        # With found from below, the cell is blank.
        self.assertEqual(found.outs("f", (False,)), told(("found", X, 2), ("found", C, 1), ("none", X, 2), ("none", C, 1)))
        self.assertEqual(found.outs("f", (True,)), told(("found", K, 2), ("found", C, 1), ("none", K, 2), ("none", C, 1)))

    def test_functions_that_call_one_another(self):
        functions = [Function("f", [G, ("told", [FOUND], [])]), Function("g", [A, F, ("told", [FOUND], []), FAULT])]
        found = maps(Code(["a"], [], functions, "f"))
        self.assertEqual(found.contexts, (("f", (False,)), ("f", (True,)), ("g", (False,)), ("g", (True,))))
        # None of them ever comes back with found, because that would have to begin somewhere.
        self.assertEqual(found.outs("f", [True]), told(("none", K, 1), ("fault", C, 2)))
        self.assertEqual(found.outs("g", [False]), told(("fault", C, 1)))

    def test_the_order_of_functions_and_flags(self):
        calls = [("either", [A], []), ("either", [B], []), ("deeper", "b"), ("deeper", "a")]
        for names in itertools.permutations(["a", "b", "s"]):
            bodies = {"s": calls, "a": [], "b": []}
            cells = ["x", "y"]
            body = [("either", [("put", "x")], []), ("either", [("put", "y")], []), ("deeper", "b"), ("deeper", "a")]
            bodies["s"] = body
            found = maps(Code(cells, [], [Function(name, bodies[name]) for name in names], "s"))
            flags = [(False, False), (False, True), (True, False), (True, True)]
            expected = []
            for name in names:
                expected.extend([(name, two) for two in flags] if name != "s" else [("s", (True, True))])
            self.assertEqual(found.contexts, tuple(expected))

    def test_codes_without_cells(self):
        found = maps(Code([], ["r"], [Function("f", [("push", "r"), F, MAY])], "f"))
        self.assertEqual(found.contexts, (("f", ()),))
        self.assertEqual(found.outs("f", ()), (("none", (), 1), ("fault", (), 1)))
        self.assertEqual(found.puzzle_for("f", [], "none", []), Puzzle())

    def test_maps_are_a_class(self):
        made = Code(["a"], [], [Function("f", [])], "f")
        self.assertIsInstance(maps(made), Maps)
        self.assertIsInstance(maps(made).contexts, tuple)


class Outs(unittest.TestCase):
    def setUp(self):
        body = [("either", [A], [("either", [BLANK], [])]), ("either", [B], []), MAY, ("either", [FOUND], []), F]
        self.made = Code(["a", "b"], [], [Function("f", body)], "f")

    def test_the_order_of_the_outs(self):
        found = maps(self.made)
        for flags in itertools.product((False, True), repeat=2):
            outs = found.outs("f", flags)
            places = [(WAYS.index(way), [HOWS.index(word) for word in how]) for way, how, _ in outs]
            self.assertEqual(places, sorted(places))
            self.assertEqual(len({(way, how) for way, how, _ in outs}), len(outs))
        self.assertEqual(len(found.outs("f", (False, False))), 18)

    def test_lists_are_taken_like_tuples(self):
        found = maps(self.made)
        self.assertEqual(found.outs("f", [False, True]), found.outs("f", (False, True)))
        self.assertEqual(found.puzzle_for("f", [True, True], "fault", [C, K]),
                         found.puzzle_for("f", (True, True), "fault", (C, K)))

    def test_no_way(self):
        found = maps(self.made)
        wrong = [("found", (X, K)), ("gone", (K, K)), ("found", (K,)), ("none", (K, K, K)), ("fault", ()), ("none", (K, "x"))]
        for way, how in wrong:
            for given in (how, list(how)):
                with self.assertRaises(NoWay) as caught:
                    found.puzzle_for("f", (True, True), way, given)
                self.assertEqual((caught.exception.way, caught.exception.how), (way, how))
                self.assertIsInstance(caught.exception.how, tuple)

    def test_no_context_comes_first(self):
        found = maps(self.made)
        for function, flags in [("g", [True, True]), ("f", [True]), ("f", [])]:
            with self.assertRaises(NoContext) as caught:
                found.puzzle_for(function, flags, "gone", ["x"])
            self.assertEqual((caught.exception.function, caught.exception.flags), (function, tuple(flags)))
            self.assertIsInstance(caught.exception.flags, tuple)

    def test_later_changes_have_no_effect(self):
        flags = [False, True]
        found = maps(self.made)
        before = found.outs("f", flags)
        flags.append(True)
        self.assertEqual(found.outs("f", (False, True)), before)


class LeastSizes(unittest.TestCase):
    def test_the_least_of_several(self):
        # The cheap callee is behind the dear one, and the other way round.
        dear = [G, ("told", [FOUND], []), FAULT]
        for calls in ([("either", [G], [("deeper", "h")])], [("either", [("deeper", "h")], [G])]):
            functions = [Function("f", [*calls, ("told", [FOUND], [])]), Function("g", dear), Function("h", [FOUND])]
            found = maps(Code([], [], functions, "f"))
            self.assertEqual(found.outs("f", ()), (("found", (), 2), ("none", (), 1), ("fault", (), 2)))

    def test_sizes_of_several_calls_add_up(self):
        body = [G, ("told", [G, ("told", [G, ("told", [FOUND], [])], [])], [])]
        functions = [Function("f", body), Function("g", [("deeper", "h"), ("told", [FOUND], [])]), Function("h", [FOUND])]
        found = maps(Code([], [], functions, "f"))
        self.assertEqual(found.outs("f", ()), (("found", (), 7), ("none", (), 1)))
        self.assertEqual(found.puzzle_for("f", (), "found", ()).spelling, ".(.(.),.(.),.(.))")
        self.assertEqual(found.puzzle_for("g", (), "found", ()).spelling, ".(.)")

    def test_a_tree_too_great_for_a_puzzle(self):
        found = maps(great_code(FOUND))
        flags, how = (True, True, True), (C, C, K)
        self.assertIn(("found", how, 547), found.outs("f", flags))
        with self.assertRaises(TooGreat):
            found.puzzle_for("f", flags, "found", how)
        with self.assertRaises(NoWay):
            found.puzzle_for("f", flags, "fault", how)
        self.assertEqual(found.outs("g", (False, True, True))[0], ("found", (K, C, K), 91))
        puzzle = found.puzzle_for("g", (False, True, True), "found", (K, C, K))
        self.assertEqual((puzzle.size, puzzle.depth), (91, 5))

    def test_a_great_puzzle_within_the_bounds(self):
        found = maps(great_code(FOUND, 5))
        self.assertIn(("found", (C, C, K), 456), found.outs("f", (True, True, True)))
        puzzle = found.puzzle_for("f", (True, True, True), "found", (C, C, K))
        self.assertEqual((puzzle.size, puzzle.depth), (456, 6))

    def test_of_trees_of_one_size_the_flattest_is_built(self):
        # So the bound on the depth refuses a puzzle only if all least ones are too deep.
        deep = [G, ("told", [FOUND], [])]
        flat = [("deeper", "h"), ("either", [], []), ("told", [("deeper", "h"), ("told", [FOUND], [])], [])]
        for first, second in [(deep, flat), (flat, deep)]:
            functions = [Function("f", [("either", first, second)]), Function("g", [("deeper", "h"), ("told", [FOUND], [])]),
                         Function("h", [FOUND])]
            puzzle = maps(Code([], [], functions, "f")).puzzle_for("f", (), "found", ())
            self.assertEqual((puzzle.size, puzzle.depth), (3, 2))


class Compared(unittest.TestCase):
    """Maps are compared with executions."""

    def check_sound(self, made, found):
        """Each out comes about with its puzzle."""
        for function, flags in found.contexts:
            for way, how, size in found.outs(function, flags):
                puzzle = found.puzzle_for(function, flags, way, how)
                self.assertEqual(puzzle.size, size)
                done = executed_with_flags(made, function, flags, puzzle)
                visit = done.visits[1]
                self.assertEqual((visit["function"], flags_of(visit), visit["way"], how_of(visit)),
                                 (function, flags, way, how))
                # The tree has only nodes that are visited.
                self.assertEqual(len(done.visits), size + 1)

    def check_complete(self, made, found):
        """What comes about is told, with a size that is not greater."""
        tables = {context: {out[:2]: out[2] for out in found.outs(*context)} for context in found.contexts}
        for done in executions(made, 10, 300):
            for visit in done.visits:
                table = tables[(visit["function"], flags_of(visit))]
                self.assertLessEqual(table[(visit["way"], how_of(visit))], size_of(done, visit["path"]))

    def test_random_codes(self):
        dice = random.Random(33)
        for _ in range(150):
            made = dense_code(dice)
            found = maps(made)
            self.check_sound(made, found)
            self.check_complete(made, found)

    def test_small_codes_agree_in_both_directions(self):
        dice = random.Random(34)
        for _ in range(150):
            made = dense_code(dice, 4)
            seen = {}
            for done in executions(made, 12, 4000):
                for visit in done.visits:
                    table = seen.setdefault((visit["function"], flags_of(visit)), {})
                    out = (visit["way"], how_of(visit))
                    table[out] = min(size_of(done, visit["path"]), table.get(out, 99))
            found = maps(made)
            small = {context: {out[:2]: out[2] for out in found.outs(*context) if out[2] < 3}
                     for context in found.contexts}
            for context, table in seen.items():
                self.assertEqual({out: size for out, size in table.items() if size < 3}, small[context])


class Example(unittest.TestCase):
    def test_the_example_of_the_document(self):
        deeds = [("put", "used"), ("push", "path"), ("answer", "view"), ("deeper", "go"), ("pop", "path")]
        marked = Code(["used"], ["path"], [Function("go", [("tries", deeds + [("blank", "used")])])], "go")
        self.assertEqual(maps(marked).contexts, (("go", (False,)), ("go", (True,))))
        self.assertEqual(maps(marked).outs("go", (False,)), (("none", ("kept",), 1), ("none", ("blanked",), 1)))


if __name__ == "__main__":
    unittest.main()
