"""Keeping: points 35 to 37 and the heading tryback/keeping.py."""

import random
import unittest

from samples import (COUNTDOWN, MAY, clean_code, dense_code, executed, executions, great_code, in_order_of_ends,
                     large_code, not_kept, required)
from tryback.codes import Code, Function
from tryback.errors import NoCell, TooGreat
from tryback.keeping import Break, broken, keeps, keeps_cell
from tryback.puzzles import Puzzle

A, B, BLANK, GIVE = ("put", "a"), ("put", "b"), ("blank", "a"), ("give", "a")
PUSH, POP, CUT = ("push", "r"), ("pop", "r"), ("cut", "r")
F, G, H = ("deeper", "f"), ("deeper", "g"), ("deeper", "h")
FOUND, NONE, FAULT = ("stop", "found"), ("stop", "none"), ("fault",)


def code(body, other=None, third=None, cells=("a", "b"), rows=("r", "s")):
    bodies = [("f", body), ("g", other), ("h", third)]
    return Code(cells, rows, [Function(name, part) for name, part in bodies if part is not None], "f")


def falls_in(made, done):
    """When visits begin and end in an execution, and when one first takes away an item that was there when it began."""
    rows = {name: [] for name in made.rows}
    lengths, begun, ended, fallen, under_way = [], [], {}, {}, []
    for time, (word, name) in enumerate(done.trace):
        if word == "enter":
            under_way.append(len(begun))
            begun.append(time)
            lengths.append({row: len(items) for row, items in rows.items()})
        elif word == "leave":
            ended[under_way.pop()] = time
        elif word == "push":
            rows[name].append(time)
        elif word in ("pop", "cut"):
            del rows[name][(-1 if word == "pop" else lengths[under_way[-1]][name]):]
            for number in under_way:
                if len(rows[name]) < lengths[number][name]:
                    fallen.setdefault(number, time)
    return begun, ended, fallen


def pairs_of(made, done):
    """The pairs that are broken in an execution."""
    begun, ended, fallen = falls_in(made, done)
    for number in sorted(ended, key=ended.get):
        wrong = not_kept(made, done.visits[number])
        if wrong:
            for other, time in fallen.items():
                if any(time < start < min(ended[other], ended[number]) for start in begun):
                    return set()
            return {(done.visits[number]["function"], thing) for thing in wrong}
    return set()


class Case(unittest.TestCase):
    def check_break(self, made, found, size=None, way=None, things=None, path=None):
        """A break of keeps tells the first visit to end that does not keep everything."""
        self.assertIsInstance(found, Break)
        self.assertIsInstance(found.path, tuple)
        done = executed(made, found.puzzle)
        self.assertEqual(len(done.visits), found.puzzle.size)
        wrong = [visit for visit in in_order_of_ends(done.visits) if not_kept(made, visit)][0]
        self.assertEqual((found.path, found.function, found.way), (wrong["path"], wrong["function"], wrong["way"]))
        self.assertIn(found.thing, not_kept(made, wrong))
        for expected, told in [(size, found.puzzle.size), (way, found.way), (path, found.path)]:
            if expected is not None:
                self.assertEqual(told, expected)
        if things is not None:
            self.assertIn(found.thing, things)

    def breaks(self, made, pairs, size, **more):
        """A code has these broken pairs and a least break of this size."""
        self.assertEqual(broken(made), tuple(pairs))
        self.check_break(made, keeps(made), size, **more)

    def is_clean(self, made):
        self.assertEqual((keeps(made), broken(made)), (None, ()))
        for cell in made.cells:
            self.assertIsNone(keeps_cell(made, cell))


class Clean(Case):
    def test_codes_that_keep_everything(self):
        bodies = [[], [BLANK], [GIVE], [POP], [CUT], [A, GIVE], [A, BLANK], [PUSH, POP], [PUSH, PUSH, CUT],
                  [("tries", [PUSH]), CUT], [("tries", [A, PUSH, F, POP, GIVE])], [("lastly", [A, PUSH, F, MAY], [GIVE, CUT])],
                  [("tries", [POP])], [A, F, ("told", [], []), GIVE], [("guard", [A, FAULT], [GIVE])],
                  [FOUND, A], [("look", "a", [PUSH], [])], [("told", [A, PUSH], [])]]
        for body in bodies:
            self.is_clean(code(body))

    def test_codes_without_things(self):
        self.is_clean(Code([], [], [Function("f", [F, MAY, FOUND])], "f"))

    def test_functions_that_nobody_calls(self):
        self.is_clean(code([H], [A, PUSH], []))
        self.is_clean(code([("told", [G], [])], [A, PUSH]))

    def test_a_break_that_no_puzzle_comes_to(self):
        # At the start, the row is empty and the cell is blank.
        self.is_clean(code([POP, BLANK, G], [("look", "a", [PUSH], [])]))
        # The callee never comes back with found.
        self.is_clean(code([G, ("told", [A], [])], [MAY, NONE]))
        self.is_clean(code([("guard", [G], [A])], [FOUND]))

    def test_a_large_code(self):
        self.is_clean(large_code())

    def test_random_codes_that_give_all_back(self):
        dice = random.Random(35)
        for _ in range(40):
            self.is_clean(clean_code(dice))


class CellBreaks(Case):
    def test_in_the_start_function(self):
        self.breaks(code([A]), [("f", "a")], 1, way="none", path=())
        self.breaks(code([A, FOUND]), [("f", "a")], 1, way="found", path=())
        self.breaks(code([A, FAULT, BLANK]), [("f", "a")], 1, way="fault", path=())
        self.breaks(code([("either", [A], []), B, BLANK]), [("f", "b")], 1)

    def test_in_a_function_that_is_called(self):
        self.breaks(code([A, G, GIVE], [BLANK]), [("g", "a")], 2, path=(0,), things=["a"])
        self.breaks(code([G, G, G], [A, H, GIVE], [BLANK, FOUND]), [("h", "a")], 3, way="found", things=["a"])

    def test_blank_counts_only_for_a_cell_that_is_filled(self):
        self.is_clean(code([G], [BLANK]))
        self.breaks(code([("either", [A], []), G, GIVE], [BLANK]), [("g", "a")], 2)

    def test_ways_out_that_do_not_give_back(self):
        for leave, way in [(MAY, "fault"), (("either", [FOUND], []), "found"), (("either", [NONE], []), "none")]:
            self.breaks(code([A, leave, GIVE]), [("f", "a")], 1, way=way)

    def test_a_fault_from_below(self):
        self.breaks(code([A, G, GIVE], [MAY]), [("f", "a")], 2, way="fault", path=())
        self.is_clean(code([("lastly", [A, G], [GIVE])], [MAY]))

    def test_found_from_below(self):
        body = [("tries", [A, F, ("told", [FOUND], []), GIVE]), FOUND]
        self.breaks(code(body), [("f", "a")], 2, way="found", path=(), things=["a"])


class RowBreaks(Case):
    def test_rows_left_longer(self):
        self.breaks(code([PUSH]), [("f", "r")], 1, things=["r"])
        self.breaks(code([("tries", [PUSH]), POP]), [("f", "r")], 1)
        self.breaks(code([("tries", [PUSH]), POP, POP, POP, POP]), [("f", "r")], 1)
        self.breaks(code([POP, POP, PUSH]), [("f", "r")], 1)

    def test_items_that_were_there_when_the_visit_began(self):
        self.breaks(code([PUSH, G, POP], [POP]), [("g", "r")], 2, path=(0,), things=["r"])
        self.breaks(code([PUSH, G, POP], [POP, PUSH]), [("g", "r")], 2, path=(0,), things=["r"])
        self.breaks(code([PUSH, G, CUT], [PUSH, CUT, H], [PUSH, POP, POP, PUSH]), [("h", "r")], 3, path=(0, 0))

    def test_items_of_visits_further_out(self):
        self.breaks(code([PUSH, G, POP], [H], [POP]), [("h", "r")], 3, path=(0, 0), things=["r"])
        self.breaks(code([PUSH, G, POP], [PUSH, H, POP], [POP, POP]), [("h", "r")], 3, path=(0, 0), things=["r"])

    def test_cut_takes_away_no_item_of_others(self):
        self.is_clean(code([PUSH, PUSH, G, CUT], [CUT, PUSH, PUSH, CUT, CUT]))

    def test_pops_of_an_empty_row(self):
        self.is_clean(code([POP, POP, G], [POP]))
        self.breaks(code([PUSH, POP, POP, PUSH, G, POP], [POP]), [("g", "r")], 2)

    def test_many_pushes_are_needed(self):
        # Twelve pops in a row take away all that a few rounds push.
        self.breaks(code([("tries", [PUSH])] + [POP] * 12), [("f", "r")], 1)
        self.breaks(code([("tries", [PUSH]), G, CUT], [POP] * 13), [("g", "r")], 2)

    def test_a_large_code(self):
        self.breaks(large_code(False), [("f", "s"), ("g", "s"), ("h", "s")], 1, things=["s"])

    def test_two_rows(self):
        second = ("push", "s")
        self.breaks(code([second, PUSH, POP]), [("f", "s")], 1, things=["s"])
        self.breaks(code([second, PUSH]), [("f", "r"), ("f", "s")], 1, things=["r", "s"])
        self.breaks(code([PUSH, second, G, POP, ("pop", "s")], [("pop", "s")]), [("g", "s")], 2, things=["s"])
        # One is kept only where the other is not.
        self.breaks(code([("either", [PUSH], [second]), POP]), [("f", "s")], 1, things=["s"])


class LeastBreaks(Case):
    def test_a_break_that_comes_only_in_a_great_puzzle(self):
        middle = [A, B, *required("h", 4), ("told", [FOUND], []), GIVE, ("give", "b")]
        for times in (1, 2, 6):
            functions = [Function("f", [*required("g", times), ("told", [PUSH], [])]),
                         Function("g", [("lastly", middle[:-2], middle[-2:])]), Function("h", COUNTDOWN)]
            made = Code(["a", "b"], ["r"], functions, "f")
            self.breaks(made, [("f", "r")], 1 + times * 61, path=(), way="none", things=["r"])

    def test_a_break_beyond_the_bounds(self):
        made = great_code(("put", "c"))
        with self.assertRaises(TooGreat):
            keeps_cell(made, "c")
        self.assertEqual(keeps(made).puzzle.size, 1)
        self.assertEqual(keeps_cell(great_code(("put", "c"), 5), "c").puzzle.size, 456)

    def test_visits_ahead_of_the_break_count_too(self):
        made = code([G, ("told", [A], [])], [H, H, ("told", [FOUND], [])], [FOUND])
        self.breaks(made, [("f", "a")], 3, path=())
        made = code([G, ("told", [H], [])], [FOUND], [PUSH])
        self.breaks(made, [("h", "r")], 3, path=(1,))

    def test_the_cheapest_thing_is_told(self):
        made = code([G, ("told", [A], [PUSH])], [FOUND])
        self.breaks(made, [("f", "a"), ("f", "r")], 1, things=["r"])
        made = code([G, ("told", [PUSH], [A])], [FOUND])
        self.breaks(made, [("f", "a"), ("f", "r")], 1, things=["a"])

    def test_the_puzzle_ends_with_the_break(self):
        made = code([G, G, A, G, G], [H], [])
        self.assertEqual(keeps(made).puzzle, Puzzle())


class BrokenPairs(Case):
    def pairs(self, made, *expected):
        self.assertEqual(broken(made), expected)
        self.assertIsInstance(broken(made), tuple)

    def test_the_order(self):
        all_wrong = [A, B, PUSH, ("push", "s")]
        made = Code(["b", "a"], ["s", "r"], [Function("g", all_wrong), Function("f", [("either", [G], all_wrong)])], "f")
        things = ["b", "a", "s", "r"]
        self.pairs(made, *[(name, thing) for name in "gf" for thing in things])

    def test_visits_that_end_otherwise_only_because_another_one_did(self):
        # f leaves what g has changed, but that is not its own doing.
        self.pairs(code([G], [A]), ("g", "a"))
        self.pairs(code([G, ("told", [PUSH], [])], [A, FOUND]), ("g", "a"))
        self.pairs(code([PUSH, G, POP], [CUT, POP]), ("g", "r"))
        self.pairs(code([G, ("look", "a", [PUSH], [])], [A]), ("g", "a"))
        self.pairs(code([("guard", [G], [B])], [A, FAULT]), ("g", "a"))
        # With another way out of g, it is.
        self.pairs(code([("guard", [G], [B])], [MAY, A, FAULT]), ("f", "b"), ("g", "a"))

    def test_a_visit_that_begins_while_an_item_is_away(self):
        # Only where f has taken an item away does h begin, so h breaks nothing.
        self.pairs(code([PUSH, G, POP], [POP, H], [A]), ("g", "r"))
        # Ahead of it, or where the row was empty, it does.
        self.pairs(code([PUSH, G, POP], [H, POP], [A]), ("g", "r"), ("h", "a"))
        self.pairs(code([("tries", [PUSH]), G, CUT], [POP, H], [A]), ("g", "r"), ("h", "a"))
        self.pairs(code([PUSH, G, POP], [PUSH, POP, H, POP, H], [A]), ("g", "r"), ("h", "a"))

    def test_what_a_visit_does_not_keep_behind_an_item_taken_away(self):
        self.pairs(code([PUSH, G, POP], [POP, A, ("push", "s")]), ("g", "a"), ("g", "r"), ("g", "s"))
        self.pairs(code([PUSH, G, POP], [POP, H, ("told", [A], [])], [FOUND]), ("g", "r"))
        self.pairs(code([PUSH, G, POP], [POP, H, ("told", [], [A])], [FOUND]), ("g", "a"), ("g", "r"))

    def test_an_item_taken_away_further_out(self):
        # g takes away an item of f; it ends first, because h may not begin any more.
        self.pairs(code([PUSH, G, POP], [("either", [POP], []), H, ("either", [POP], [])], [PUSH]), ("g", "r"), ("h", "r"))

    def test_joint_rows_and_cells(self):
        # Found comes back only where a row is left longer or a cell changed; so it is no way of a visit that keeps all.
        for wrong in (A, PUSH, ("push", "s")):
            self.pairs(code([G, ("told", [B], [])], [("either", [wrong, FOUND], [])]), ("g", wrong[1]))
        both = [("either", [PUSH, ("either", [POP, ("push", "s"), FOUND], [POP])], []), ("pop", "s")]
        self.pairs(code([G, ("told", [B], [])], both), ("g", "s"))

    def test_ways_out_that_come_only_with_an_empty_row(self):
        # g comes back with found and keeps the row only where it is empty; so h never finds an item.
        self.pairs(code([("either", [PUSH], []), G, ("told", [H], []), CUT], [POP, FOUND], [POP]), ("g", "r"))
        self.pairs(code([("either", [PUSH], []), G, ("told", [H], []), CUT], [FOUND], [POP]), ("h", "r"))

    def test_broken_is_empty_exactly_for_clean_codes(self):
        dice = random.Random(37)
        for _ in range(100):
            made = dense_code(dice, 6)
            self.assertEqual(broken(made) == (), keeps(made) is None)


class OneCell(Case):
    def check_cell(self, made, cell, size):
        found = keeps_cell(made, cell)
        self.assertIsInstance(found, Break)
        self.assertEqual((found.puzzle.size, found.thing), (size, cell))
        visits = executed(made, found.puzzle).visits
        told = [(visit["path"], visit["function"], visit["way"]) for visit in visits if cell in not_kept(made, visit)]
        self.assertIn((found.path, found.function, found.way), told)

    def test_each_cell_for_itself(self):
        made = code([A, G, GIVE], [("put", "b"), ("either", [BLANK], [])])
        self.check_cell(made, "a", 2)
        self.check_cell(made, "b", 2)
        self.assertIsNone(keeps_cell(code([A, B, ("give", "b")]), "b"))
        self.check_cell(code([A, B, ("give", "b")]), "a", 1)

    def test_visits_ahead_of_it_keep_nothing(self):
        made = code([G, ("look", "a", [B], [])], [A, PUSH])
        self.check_cell(made, "b", 2)
        self.assertEqual(broken(made), (("g", "a"), ("g", "r")))
        self.check_cell(code([PUSH, G, POP, ("told", [B], [])], [POP, POP, BLANK, A, FOUND]), "b", 2)

    def test_a_cell_that_a_call_gives_back(self):
        # The inner visit blanks the cell, and the outer one leaves it blank, as it was.
        made = code([A, G, BLANK], [BLANK])
        self.check_cell(made, "a", 2)
        self.assertIsNone(keeps_cell(code([G], [("look", "a", [BLANK], [])]), "a"))

    def test_rows_do_not_matter(self):
        self.assertIsNone(keeps_cell(code([PUSH, PUSH, G, A, GIVE], [POP]), "a"))

    def test_no_cell(self):
        for name in ("r", "f", "x", "", "c"):
            for made in (code([A]), code([])):
                with self.assertRaises(NoCell) as caught:
                    keeps_cell(made, name)
                self.assertEqual(caught.exception.name, name)


class Compared(Case):
    """Compared with executions."""

    def test_random_codes(self):
        dice = random.Random(36)
        for _ in range(120):
            made = dense_code(dice)
            dones = executions(made, 10, 250)
            wrong = [{thing for visit in done.visits for thing in not_kept(made, visit)} for done in dones]
            sizes = [len(done.visits) for done, things in zip(dones, wrong) if things]
            found = keeps(made)
            if found is None:
                self.assertEqual(sizes, [])
            else:
                self.check_break(made, found)
                self.assertLessEqual(found.puzzle.size, min(sizes, default=99999))
            for cell in made.cells:
                sizes = [len(done.visits) for done, things in zip(dones, wrong) if cell in things]
                if keeps_cell(made, cell) is None:
                    self.assertEqual(sizes, [])
                else:
                    self.check_cell_break(made, keeps_cell(made, cell), cell)
                    self.assertLessEqual(keeps_cell(made, cell).puzzle.size, min(sizes, default=99999))
            pairs = set(broken(made))
            for done in dones:
                self.assertLessEqual(pairs_of(made, done), pairs)

    def check_cell_break(self, made, found, cell):
        done = executed(made, found.puzzle)
        self.assertEqual(len(done.visits), found.puzzle.size)
        visit = [visit for visit in done.visits if visit["path"] == found.path][0]
        self.assertIn(cell, not_kept(made, visit))

    def test_pairs_of_small_codes_agree_in_both_directions(self):
        dice = random.Random(38)
        for _ in range(150):
            made = dense_code(dice, 4)
            pairs = set()
            for done in executions(made, 14, 1500):
                pairs |= pairs_of(made, done)
            self.assertEqual(set(broken(made)), pairs)


class Examples(unittest.TestCase):
    def test_the_examples_of_the_document(self):
        deeds = [("put", "used"), ("push", "path"), ("answer", "view"), ("deeper", "go"), ("pop", "path")]
        marked = Code(["used"], ["path"], [Function("go", [("tries", deeds + [("blank", "used")])])], "go")
        self.assertEqual([keeps(marked).puzzle.size, keeps(marked).way, keeps(marked).thing, broken(marked)],
                         [2, "none", "used", (("go", "used"),)])
        fair = Code(["used"], ["path"], [Function("go", [("tries", deeds + [("give", "used")])])], "go")
        self.assertEqual([keeps(fair), keeps_cell(fair, "used"), broken(fair)], [None, None, ()])


if __name__ == "__main__":
    unittest.main()
