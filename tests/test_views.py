"""Views: point 38 and the heading tryback/views.py."""

import random
import unittest

from samples import COUNTDOWN, MAY, clean_code, dense_code, executed, executions, large_code, required
from tryback.codes import Code, Function
from tryback.errors import TryError, Unclean
from tryback.keeping import broken
from tryback.views import Spoiled, spoiled

A, B, BLANK, GIVE = ("put", "a"), ("put", "b"), ("blank", "a"), ("give", "a")
PUSH, POP, CUT = ("push", "r"), ("pop", "r"), ("cut", "r")
F, G, H = ("deeper", "f"), ("deeper", "g"), ("deeper", "h")
FOUND = ("stop", "found")
COPY, VIEW = ("answer", "copy"), ("answer", "view")


def code(body, other=None, third=None, cells=("a", "b"), rows=("r", "s")):
    bodies = [("f", body), ("g", other), ("h", third)]
    return Code(cells, rows, [Function(name, part) for name, part in bodies if part is not None], "f")


def filled_views(made, done):
    """For each spoiled view of an execution its path, the things that are filled, and how many visits have begun then.

    Trace and answers are in the same order.
    """
    answers = list(done.answers)
    found, begun = [], 0
    for word, name in done.trace:
        begun += word == "enter"
        if word == "answer":
            how, path, (cells, rows) = answers.pop(0)
            things = [cell for cell, worth in zip(made.cells, cells) if worth is not None]
            things += [row for row, items in zip(made.rows, rows) if items]
            if how == "view" and (cells, rows) != done.contents():
                found.append((path, things, begun))
    return found


class Case(unittest.TestCase):
    def check(self, made, size, path=None, things=None):
        found = spoiled(made)
        self.assertIsInstance(found, Spoiled)
        views = filled_views(made, executed(made, found.puzzle))
        self.assertIn(found.path, [view[0] for view in views])
        self.assertIn(found.thing, [thing for view in views for thing in view[1] if view[0] == found.path])
        self.assertEqual((found.puzzle.size, len(executed(made, found.puzzle).visits)), (size, size))
        if path is not None:
            self.assertEqual(found.path, path)
        if things is not None:
            self.assertIn(found.thing, things)


class Views(Case):
    def test_views_while_a_cell_is_filled(self):
        self.check(code([A, VIEW, GIVE]), 1, (), ["a"])
        self.check(code([B, VIEW, ("give", "b")]), 1, (), ["b"])
        self.check(code([A, B, VIEW, BLANK, ("blank", "b")]), 1, (), ["a", "b"])
        self.check(code([("tries", [A, ("either", [VIEW], []), GIVE])]), 1, (), ["a"])

    def test_views_while_a_row_is_not_empty(self):
        self.check(code([PUSH, VIEW, POP]), 1, (), ["r"])
        self.check(code([("push", "s"), VIEW, ("cut", "s")]), 1, (), ["s"])
        self.check(code([("tries", [PUSH]), VIEW, CUT]), 1, (), ["r"])
        self.check(code([("tries", [PUSH]), POP, POP, POP, VIEW, CUT]), 1, (), ["r"])

    def test_views_while_nothing_is_filled(self):
        for body in ([VIEW], [VIEW, A, GIVE, VIEW], [PUSH, POP, VIEW], [A, BLANK, VIEW], [A, GIVE, VIEW, F],
                     [POP, VIEW], [("tries", [PUSH, POP, VIEW, A, GIVE])], [("tries", [PUSH]), CUT, VIEW]):
            self.assertIsNone(spoiled(code(body)))

    def test_copies_are_never_spoiled(self):
        self.assertIsNone(spoiled(code([A, PUSH, COPY, G, POP, GIVE], [COPY])))
        self.assertIsNone(spoiled(code([COPY])))
        self.check(code([A, COPY, GIVE, PUSH, VIEW, POP]), 1, (), ["r"])

    def test_codes_without_answers_or_things(self):
        self.assertIsNone(spoiled(code([A, G, GIVE], [])))
        self.assertIsNone(spoiled(Code([], [], [Function("f", [VIEW, F])], "f")))

    def test_views_in_deeper_visits(self):
        self.check(code([A, G, GIVE], [VIEW]), 2, (0,), ["a"])
        self.check(code([PUSH, G, G, POP], [H, ("told", [VIEW], [])], [FOUND]), 3, None, ["r"])
        self.check(code([G, A, G, GIVE], [("look", "a", [VIEW], [])]), 2, (1,), ["a"])
        self.check(code([("tries", [PUSH, F, POP]), ("told", [], [VIEW])]), 2, (0,), ["r"])

    def test_a_deeper_view_is_not_spoiled_by_what_its_visit_gave_back(self):
        self.assertIsNone(spoiled(code([G, VIEW], [A, PUSH, POP, GIVE, VIEW])))
        self.check(code([A, G, GIVE], [B, PUSH, POP, ("give", "b"), VIEW]), 2, (0,), ["a"])

    def test_views_that_no_visit_comes_to(self):
        self.assertIsNone(spoiled(code([A, ("told", [VIEW], []), G, ("told", [VIEW], []), GIVE], [])))
        self.assertIsNone(spoiled(code([A, ("look", "a", [], [VIEW]), GIVE])))
        self.assertIsNone(spoiled(code([GIVE, G, FOUND, VIEW], [A, GIVE])))

    def test_a_large_code(self):
        self.assertIsNone(spoiled(large_code(how="copy")))
        # g fills the cell b, and h looks at it.
        self.check(large_code(), 3, (0, 0))

    def test_a_great_puzzle(self):
        middle = [A, B, *required("h", 4), ("told", [FOUND], [])]
        functions = [Function("f", [PUSH, *required("g", 5), ("told", [VIEW], []), POP]),
                     Function("g", [("lastly", middle, [GIVE, ("give", "b")])]), Function("h", COUNTDOWN)]
        self.check(Code(["a", "b"], ["r"], functions, "f"), 306, (), ["r"])


class NotClean(Case):
    def raises(self, made):
        with self.assertRaises(Unclean) as caught:
            spoiled(made)
        self.assertIsInstance(caught.exception, TryError)
        self.assertEqual((caught.exception.function, caught.exception.thing), broken(made)[0])
        return caught.exception.function, caught.exception.thing

    def test_the_first_broken_pair(self):
        self.assertEqual(self.raises(code([A])), ("f", "a"))
        self.assertEqual(self.raises(code([B, PUSH, VIEW])), ("f", "b"))
        self.assertEqual(self.raises(code([PUSH])), ("f", "r"))
        self.assertEqual(self.raises(code([G, PUSH, ("push", "s")], [A])), ("f", "r"))
        self.assertEqual(self.raises(code([PUSH, G, POP, VIEW], [POP])), ("g", "r"))

    def test_codes_without_views_must_be_clean_too(self):
        self.assertEqual(self.raises(code([A, COPY])), ("f", "a"))


class Compared(Case):
    """Compared with executions."""

    def test_random_clean_codes(self):
        dice = random.Random(39)
        told = 0
        for _ in range(250):
            made = clean_code(dice)
            sizes = [view[2] for done in executions(made, 9, 200) for view in filled_views(made, done)]
            found = spoiled(made)
            if found is None:
                self.assertEqual(sizes, [])
            else:
                self.check(made, found.puzzle.size)
                self.assertLessEqual(found.puzzle.size, min(sizes, default=99999))
                told += 1
        self.assertGreater(told, 20)

    def test_random_codes(self):
        dice = random.Random(40)
        for _ in range(100):
            made = dense_code(dice)
            if broken(made):
                with self.assertRaises(Unclean) as caught:
                    spoiled(made)
                self.assertEqual((caught.exception.function, caught.exception.thing), broken(made)[0])
            else:
                sizes = [view[2] for done in executions(made, 9, 100) for view in filled_views(made, done)]
                if spoiled(made) is None:
                    self.assertEqual(sizes, [])
                else:
                    self.check(made, spoiled(made).puzzle.size)


class Example(unittest.TestCase):
    def test_the_example_of_the_document(self):
        deeds = [("put", "used"), ("push", "path"), ("answer", "view"), ("deeper", "go"), ("pop", "path")]
        fair = Code(["used"], ["path"], [Function("go", [("tries", deeds + [("give", "used")])])], "go")
        self.assertEqual([spoiled(fair).puzzle.size, spoiled(fair).path], [1, ()])


if __name__ == "__main__":
    unittest.main()
