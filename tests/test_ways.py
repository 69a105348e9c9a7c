"""Ways through the text: points 40 and 41 and the heading tryback/ways.py."""

import random
import unittest

from samples import MAY, dense_code, executions, ways_through
from tryback.codes import Code, Function
from tryback.flows import WAYS
from tryback.passages import FIRST_PLACE, Passages
from tryback.ways import faulting, spots_of

A = ("put", "a")
F, G, H = ("deeper", "f"), ("deeper", "g"), ("deeper", "h")
FOUND, NONE, FAULT = ("stop", "found"), ("stop", "none"), ("fault",)
AGAIN, OUT = ("again",), ("out",)


def code(body, other=None, third=None):
    bodies = [("f", body), ("g", other), ("h", third)]
    return Code(["a"], ["r"], [Function(name, part) for name, part in bodies if part is not None], "f")


def ways_of(body, most, names=()):
    """All ways through the passages of a body with at most so many spots, as tuples of paths and the way out."""
    passages = Passages(Function("f", body).body, names)
    found, waiting = [], [(FIRST_PLACE,)]
    while waiting:
        places = waiting.pop()
        for target in passages.nexts[places[-1]]:
            if target in WAYS:
                found.append((*[place[0] for place in places], target))
            elif len(places) < most:
                waiting.append((*places, target))
    return sorted(found, key=str)


class Spots(unittest.TestCase):
    def test_empty_bodies_and_parts(self):
        self.assertEqual(spots_of([]), [(0,)])
        self.assertEqual(spots_of(()), [(0,)])
        self.assertEqual(spots_of([("tries", [])]), [(0,), (0, 0, 0), (1,)])
        for word in ("either", "told", "guard", "lastly"):
            self.assertEqual(spots_of([(word, [], [])]), [(0,), (0, 0, 0), (0, 1, 0), (1,)])
        self.assertEqual(spots_of([("look", "a", [], [])]), [(0,), (0, 0, 0), (0, 1, 0), (1,)])

    def test_simple_statements(self):
        body = [A, ("push", "r"), ("answer", "copy"), F, NONE, FAULT, MAY]
        self.assertEqual(spots_of(body), [(number,) for number in range(8)])

    def test_three_blocks_deep(self):
        body = [A, ("tries", [("look", "a", [A], [("guard", [], [A, A])]), OUT]), ("lastly", [], [A])]
        self.assertEqual(spots_of(body), [
            (0,), (1,), (1, 0, 0), (1, 0, 0, 0, 0), (1, 0, 0, 0, 1), (1, 0, 0, 1, 0), (1, 0, 0, 1, 0, 0, 0),
            (1, 0, 0, 1, 0, 1, 0), (1, 0, 0, 1, 0, 1, 1), (1, 0, 0, 1, 0, 1, 2), (1, 0, 0, 1, 1), (1, 0, 1), (1, 0, 2),
            (2,), (2, 0, 0), (2, 1, 0), (2, 1, 1), (3,)])

    def test_the_order_of_the_text_is_that_of_the_paths(self):
        dice = random.Random(42)
        for _ in range(100):
            for function in dense_code(dice).functions:
                spots = spots_of(function.body)
                self.assertEqual(spots, sorted(set(spots)))

    def test_the_number_of_spots(self):
        dice = random.Random(43)
        for _ in range(100):
            for function in dense_code(dice).functions:
                # Each part has one spot more than statements.
                text = repr(function.body)
                parts = 2 * sum(text.count(f"'{word}'") for word in ("either", "told", "look", "guard", "lastly"))
                self.assertEqual(len(spots_of(function.body)), function.many + parts + text.count("'tries'") + 1)

    def test_parts_as_lists_and_as_tuples(self):
        self.assertEqual(spots_of([("tries", [("either", [A], [])])]), spots_of((("tries", (("either", (A,), ()),)),)))

    def test_each_list_is_a_new_one(self):
        body = (A,)
        first = spots_of(body)
        first.append((9,))
        self.assertEqual(spots_of(body), [(0,), (1,)])


class Faulting(unittest.TestCase):
    def faults(self, made, *names):
        found = faulting(made)
        self.assertIsInstance(found, list)
        self.assertEqual(sorted(found), sorted(names))

    def test_by_fault_and_by_may(self):
        self.faults(code([FAULT]), "f")
        self.faults(code([MAY]), "f")
        self.faults(code([A, ("tries", [("either", [MAY], [])])]), "f")
        self.faults(code([]))
        self.faults(code([A, FOUND, ("answer", "view"), F]))

    def test_by_a_deeper_call(self):
        self.faults(code([G], [MAY], []), "f", "g")
        self.faults(code([G], [H], [FAULT]), "f", "g", "h")
        self.faults(code([], [H], [MAY, F]), "g", "h")
        self.faults(code([G], [FOUND, MAY]))

    def test_in_a_ring_of_calls(self):
        self.faults(code([G], [H], [F]))
        self.faults(code([G], [H], [F, MAY]), "f", "g", "h")
        self.faults(code([G], [("guard", [H], [])], [F, MAY]), "h")
        self.faults(code([F, MAY]), "f")
        self.faults(code([F]))

    def test_guards(self):
        self.faults(code([("guard", [FAULT], [])]))
        self.faults(code([("guard", [MAY, G], [])], [FAULT]), "g")
        self.faults(code([("guard", [], [FAULT])]))
        self.faults(code([("guard", [MAY], [MAY])]), "f")
        self.faults(code([("guard", [MAY], [G])], [MAY]), "f", "g")
        self.faults(code([("guard", [("guard", [MAY], [MAY])], [])]))
        self.faults(code([("guard", [A], []), MAY]), "f")
        self.faults(code([("guard", [FOUND], [FAULT])]))

    def test_lastly(self):
        self.faults(code([("lastly", [MAY], [A])]), "f")
        self.faults(code([("lastly", [FOUND], [A]), FAULT]))
        self.faults(code([("guard", [("lastly", [FAULT], [A])], [NONE]), FAULT]))
        self.faults(code([("tries", [("lastly", [("either", [OUT], [AGAIN])], [A]), FAULT])]))

    def test_statements_that_no_way_passes(self):
        self.faults(code([NONE, FAULT]))
        self.faults(code([("tries", [OUT, FAULT])]))
        self.faults(code([("tries", [AGAIN, MAY])]))
        self.faults(code([("either", [FOUND], [NONE]), FAULT]))
        self.faults(code([("look", "a", [], [FAULT])]), "f")

    def test_text_and_not_puzzles(self):
        # No puzzle comes to these faults, but ways through the text do.
        self.faults(code([("told", [FAULT], [])]), "f")
        self.faults(code([("look", "a", [FAULT], [])]), "f")

    def test_functions_that_nobody_calls(self):
        self.faults(code([], [FAULT]), "g")

    def test_each_list_is_a_new_one(self):
        made = code([MAY])
        faulting(made).append("g")
        self.assertEqual(faulting(made), ["f"])


class Ways(unittest.TestCase):
    def goes(self, body, *ways, most=8, names=()):
        self.assertEqual(ways_of(body, most, names), sorted(ways, key=str))

    def test_straight_on(self):
        self.goes([], ((0,), "none"))
        self.goes([A, F], ((0,), (1,), (2,), "none"))
        self.goes([A, FOUND, A], ((0,), (1,), "found"))
        self.goes([FAULT], ((0,), "fault"))
        self.goes([MAY], ((0,), (1,), "none"), ((0,), "fault"))
        self.goes([F], ((0,), (1,), "none"), ((0,), "fault"), names=["f"])

    def test_blocks(self):
        for block in (("either", [], [A]), ("told", [], [A]), ("look", "a", [], [A])):
            self.goes([block], ((0,), (0, 0, 0), (1,), "none"), ((0,), (0, 1, 0), (0, 1, 1), (1,), "none"))
        self.goes([("guard", [MAY], [A])], ((0,), (0, 0, 0), (0, 0, 1), (1,), "none"),
                  ((0,), (0, 0, 0), (0, 1, 0), (0, 1, 1), (1,), "none"))

    def test_tries(self):
        self.goes([("tries", [A])], ((0,), (1,), "none"), ((0,), (0, 0, 0), (0, 0, 1), (1,), "none"),
                  ((0,), (0, 0, 0), (0, 0, 1), (0, 0, 0), (0, 0, 1), (1,), "none"), most=6)
        self.goes([("tries", [OUT])], ((0,), (1,), "none"), ((0,), (0, 0, 0), (1,), "none"))
        self.goes([("tries", [AGAIN])], ((0,), (1,), "none"), ((0,), (0, 0, 0), (1,), "none"),
                  ((0,), (0, 0, 0), (0, 0, 0), (1,), "none"), most=4)
        self.goes([("tries", [])], ((0,), (1,), "none"), ((0,), (0, 0, 0), (1,), "none"),
                  ((0,), (0, 0, 0), (0, 0, 0), (1,), "none"), most=4)

    def test_lastly_behind_each_way(self):
        last = ((0, 1, 0), (0, 1, 1))
        start = ((0,), (0, 0, 0))
        self.goes([("lastly", [], [A])], (*start, *last, (1,), "none"))
        self.goes([("lastly", [FOUND], [A])], (*start, *last, "found"))
        self.goes([("lastly", [NONE], [A])], (*start, *last, "none"))
        self.goes([("lastly", [FAULT], [A])], (*start, *last, "fault"))
        self.goes([("lastly", [MAY], [A])], (*start, (0, 0, 1), *last, (1,), "none"), (*start, *last, "fault"))
        self.goes([("lastly", [FAULT], [])], (*start, (0, 1, 0), "fault"))

    def test_lastly_behind_again_and_out(self):
        first = ((0,), (0, 0, 0), (0, 0, 0, 0, 0), (0, 0, 0, 1, 0))
        self.goes([("tries", [("lastly", [OUT], []), A])], ((0,), (1,), "none"), (*first, (1,), "none"))
        self.goes([("tries", [("lastly", [AGAIN], []), A])], ((0,), (1,), "none"), (*first, (1,), "none"),
                  (*first, *first[1:], (1,), "none"))
        # The goal is the innermost tries around, which is inside the lastly here.
        self.goes([("lastly", [("tries", [OUT])], [])], ((0,), (0, 0, 0), (0, 0, 1), (0, 1, 0), (1,), "none"),
                  ((0,), (0, 0, 0), (0, 0, 0, 0, 0), (0, 0, 1), (0, 1, 0), (1,), "none"))

    def test_ways_agree_with_those_that_follow_the_text(self):
        dice = random.Random(44)
        for _ in range(300):
            made = dense_code(dice, 10)
            names = faulting(made)
            for function in made.functions:
                expected = [(*[spot for spot, _ in passed], end)
                            for passed, end in ways_through(function.body, 13, names)]
                self.assertEqual(ways_of(function.body, 13, names), sorted(expected, key=str))

    def test_faulting_agrees_with_ways(self):
        dice = random.Random(45)
        for _ in range(300):
            made = dense_code(dice, 5)
            names = []
            for _ in range(3):
                names = [function.name for function in made.functions
                         if "fault" in [end for _, end in ways_through(function.body, 14, names)]]
            self.assertEqual(sorted(faulting(made)), sorted(names))

    def test_each_run_of_a_visit_is_a_way(self):
        dice = random.Random(46)
        for _ in range(100):
            made = dense_code(dice)
            names = faulting(made)
            for done in executions(made, 8, 60):
                for visit in done.visits:
                    self.assertTrue(visit["way"] != "fault" or visit["function"] in names)


class Example(unittest.TestCase):
    def test_the_example_of_the_document(self):
        found = ("told", [("stop", "found")], [])
        search = Code(["a"], [], [Function("f", [("tries", [("put", "a"), ("deeper", "f"), found])])], "f")
        self.assertEqual([spots_of([("tries", [])]), faulting(search)], [[(0,), (0, 0, 0), (1,)], []])


if __name__ == "__main__":
    unittest.main()
