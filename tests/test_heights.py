"""Heights of rows: points 42 and 43 and the heading tryback/heights.py."""

import random
import unittest

from samples import MAY, dense_code, ways_through
from tryback.codes import Code, Function
from tryback.errors import NoRow, NoSuch
from tryback.heights import Heights, heights
from tryback.ways import faulting, spots_of

A = ("put", "a")
PUSH, POP, CUT = ("push", "r"), ("pop", "r"), ("cut", "r")
PUSHS, POPS = ("push", "s"), ("pop", "s")
F, G = ("deeper", "f"), ("deeper", "g")
FOUND, NONE, FAULT = ("stop", "found"), ("stop", "none"), ("fault",)
AGAIN, OUT = ("again",), ("out",)


def code(body, other=()):
    return Code(["a"], ["r", "s"], [Function("f", body), Function("g", other)], "f")


def break_in(passed, end, row, full):
    """The kind and the way of the break that this way has; None if it has none."""
    height = 0
    for number, (_, statement) in enumerate(passed):
        if statement == ("pop", row) and height == 0 and full:
            return "below", tuple(spot for spot, _ in passed[:number + 1])
        height = height_behind(statement, row, height)
    return ("left", (*[spot for spot, _ in passed], end)) if height != 0 else None


def height_behind(statement, row, height):
    changes = {("push", row): height + 1, ("pop", row): max(0, height - 1), ("cut", row): 0}
    return changes.get(statement, height)


class Case(unittest.TestCase):
    def is_kept(self, body, *stretches, full=(False, True), other=(), row="r"):
        """There is no break, and these are the stretches."""
        for given in full:
            found = heights(code(body, other), "f", row, given)
            self.assertIsInstance(found, Heights)
            self.assertEqual((found.kind, found.way), (None, None))
            self.assertIsInstance(found.stretches, tuple)
            self.assertEqual(found.stretches, stretches)

    def breaks(self, body, kind, *ways, full=(False, True), other=(), row="r"):
        """There is a break, and one of these is a shortest way to it."""
        for given in full:
            found = heights(code(body, other), "f", row, given)
            self.assertIsNone(found.stretches)
            self.assertEqual(found.kind, kind)
            self.assertIn(found.way, ways)


class Breaks(Case):
    def test_left(self):
        self.breaks([PUSH], "left", ((0,), (1,), "none"))
        self.breaks([PUSH, FOUND, POP], "left", ((0,), (1,), "found"))
        self.breaks([PUSH, ("either", [FAULT], [POP])], "left", ((0,), (1,), (1, 0, 0), "fault"))
        self.breaks([PUSH, PUSH, POP], "left", ((0,), (1,), (2,), (3,), "none"))
        self.breaks([PUSH, MAY, POP], "left", ((0,), (1,), "fault"))
        self.breaks([PUSH, G, POP], "left", ((0,), (1,), "fault"), other=[MAY])
        self.breaks([("tries", [PUSH])], "left", ((0,), (0, 0, 0), (0, 0, 1), (1,), "none"))

    def test_below(self):
        self.breaks([POP], "below", ((0,),), full=[True])
        self.breaks([A, POP, PUSH], "below", ((0,), (1,)), full=[True])
        self.breaks([PUSH, POP, POP, A, A], "below", ((0,), (1,), (2,)), full=[True])
        self.breaks([PUSH, ("either", [CUT, POP], [POP])], "below", ((0,), (1,), (1, 0, 0), (1, 0, 1)), full=[True])

    def test_a_pop_at_height_0_of_an_empty_row_does_nothing(self):
        self.is_kept([POP], ((0,), 0, 0), ((1,), 0, 0), full=[False])
        self.is_kept([POP, PUSH, POP, POP], *[((number,), int(number == 2), int(number == 2)) for number in range(5)],
                     full=[False])
        self.breaks([POP, PUSH], "left", ((0,), (1,), (2,), "none"), full=[False])

    def test_the_shorter_break_is_told(self):
        self.breaks([("either", [A, A, POP], [PUSH])], "left",
                    ((0,), (0, 1, 0), (0, 1, 1), (1,), "none"), ((0,), (0, 0, 0), (0, 0, 1), (0, 0, 2)), full=[False])
        self.breaks([("either", [A, POP], [PUSH])], "below", ((0,), (0, 0, 0), (0, 0, 1)), full=[True])
        # As long, without the way out: any of them may be told.
        found = heights(code([("either", [PUSH, FOUND], [A, POP])]), "f", "r", True)
        self.assertIn((found.kind, found.way), [("left", ((0,), (0, 0, 0), (0, 0, 1), "found")),
                                                ("below", ((0,), (0, 1, 0), (0, 1, 1)))])
        # A way out is not counted.
        found = heights(code([("either", [PUSH, FOUND], [A, A, POP])]), "f", "r", True)
        self.assertEqual(found.kind, "left")

    def test_a_round_that_is_needed_more_than_once(self):
        pops = [POP] * 12
        way = ((0,), *[(0, 0, 0), (0, 0, 1)] * 13, *[(number,) for number in range(1, 14)], "none")
        self.breaks([("tries", [PUSH]), *pops], "left", way, full=[False])
        self.breaks([("tries", [PUSH]), *pops], "below", ((0,), (1,)), full=[True])
        way = (*[(number,) for number in range(5)], *[(4, 0, 0), (4, 0, 1)] * 4, (4, 0, 0))
        self.breaks([PUSH, PUSH, PUSH, PUSH, ("tries", [POP]), CUT], "below", way, full=[True])

    def test_moods_of_a_lastly(self):
        self.breaks([PUSH, ("lastly", [MAY], [A]), POP], "left", ((0,), (1,), (1, 0, 0), (1, 1, 0), (1, 1, 1), "fault"))
        self.breaks([("lastly", [PUSH, FOUND], [A])], "left", ((0,), (0, 0, 0), (0, 0, 1), (0, 1, 0), (0, 1, 1), "found"))
        self.breaks([("lastly", [("either", [PUSH], [FOUND])], [POP])], "below",
                    ((0,), (0, 0, 0), (0, 0, 0, 1, 0), (0, 1, 0)), full=[True])

    def test_statements_that_no_way_passes(self):
        self.is_kept([FOUND, PUSH], ((0,), 0, 0))
        self.is_kept([("tries", [OUT, POP, PUSH, PUSH])], ((0,), 0, 0), ((0, 0, 0), 0, 0), ((1,), 0, 0))


class Stretches(Case):
    def test_nothing_happens(self):
        self.is_kept([], ((0,), 0, 0))
        self.is_kept([A, F, FOUND], ((0,), 0, 0), ((1,), 0, 0), ((2,), 0, 0))
        self.is_kept([PUSH, POP], ((0,), 0, 0), ((1,), 1, 1), ((2,), 0, 0))
        self.is_kept([PUSH, PUSH, CUT], ((0,), 0, 0), ((1,), 1, 1), ((2,), 2, 2), ((3,), 0, 0))

    def test_the_other_row(self):
        self.is_kept([PUSHS, PUSHS, POPS], ((0,), 0, 0), ((1,), 0, 0), ((2,), 0, 0), ((3,), 0, 0))
        self.is_kept([PUSHS, PUSH, POPS], ((0,), 0, 0), ((1,), 1, 1), ((2,), 1, 1), ((3,), 0, 0), row="s")

    def test_either(self):
        self.is_kept([("either", [PUSH, PUSH], [PUSH]), CUT], ((0,), 0, 0), ((0, 0, 0), 0, 0), ((0, 0, 1), 1, 1),
                     ((0, 0, 2), 2, 2), ((0, 1, 0), 0, 0), ((0, 1, 1), 1, 1), ((1,), 1, 2), ((2,), 0, 0))

    def test_heights_that_grow_without_end(self):
        self.is_kept([("tries", [PUSH]), CUT], ((0,), 0, 0), ((0, 0, 0), 0, None), ((0, 0, 1), 1, None), ((1,), 0, None),
                     ((2,), 0, 0))
        self.is_kept([("tries", [PUSH, PUSH, POP]), POP, POP, CUT], ((0,), 0, 0), ((0, 0, 0), 0, None),
                     ((0, 0, 1), 1, None), ((0, 0, 2), 2, None), ((0, 0, 3), 1, None), ((1,), 0, None), ((2,), 0, None),
                     ((3,), 0, None), ((4,), 0, 0), full=[False])

    def test_rounds_that_do_not_let_a_row_grow(self):
        self.is_kept([("tries", [PUSH, POP])], ((0,), 0, 0), ((0, 0, 0), 0, 0), ((0, 0, 1), 1, 1), ((0, 0, 2), 0, 0),
                     ((1,), 0, 0))
        self.is_kept([("tries", [PUSH, CUT, PUSH, POP])], ((0,), 0, 0), ((0, 0, 0), 0, 0), ((0, 0, 1), 1, 1),
                     ((0, 0, 2), 0, 0), ((0, 0, 3), 1, 1), ((0, 0, 4), 0, 0), ((1,), 0, 0))
        # From 0 it grows to 1, but not any further.
        self.is_kept([("tries", [POP, PUSH]), CUT], ((0,), 0, 0), ((0, 0, 0), 0, 1), ((0, 0, 1), 0, 0), ((0, 0, 2), 1, 1),
                     ((1,), 0, 1), ((2,), 0, 0), full=[False])
        self.is_kept([PUSH, PUSH, ("tries", [POP, PUSH]), CUT], ((0,), 0, 0), ((1,), 1, 1), ((2,), 2, 2),
                     ((2, 0, 0), 2, 2), ((2, 0, 1), 1, 1), ((2, 0, 2), 2, 2), ((3,), 2, 2), ((4,), 0, 0))

    def test_again_and_out(self):
        self.is_kept([("tries", [PUSH, ("either", [AGAIN], [OUT])]), CUT], ((0,), 0, 0), ((0, 0, 0), 0, None),
                     ((0, 0, 1), 1, None), ((0, 0, 1, 0, 0), 1, None), ((0, 0, 1, 1, 0), 1, None), ((1,), 0, None),
                     ((2,), 0, 0))
        self.is_kept([("tries", [PUSH, OUT]), CUT], ((0,), 0, 0), ((0, 0, 0), 0, 0), ((0, 0, 1), 1, 1), ((1,), 0, 1),
                     ((2,), 0, 0))

    def test_all_moods_of_a_lastly_together(self):
        self.is_kept([("lastly", [PUSH, MAY, PUSH, MAY, CUT], [CUT])], ((0,), 0, 0), ((0, 0, 0), 0, 0), ((0, 0, 1), 1, 1),
                     ((0, 0, 2), 1, 1), ((0, 0, 3), 2, 2), ((0, 0, 4), 2, 2), ((0, 0, 5), 0, 0), ((0, 1, 0), 0, 2),
                     ((0, 1, 1), 0, 0), ((1,), 0, 0))
        # Each mood goes on by itself: the fault has one item more, and takes one away more.
        self.is_kept([("guard", [("lastly", [("either", [PUSH, FAULT], [])], [PUSH]), POP, NONE], [POP, POP])],
                     ((0,), 0, 0), ((0, 0, 0), 0, 0), ((0, 0, 0, 0, 0), 0, 0), ((0, 0, 0, 0, 0, 0, 0), 0, 0),
                     ((0, 0, 0, 0, 0, 0, 1), 1, 1), ((0, 0, 0, 0, 0, 1, 0), 0, 0), ((0, 0, 0, 0, 1), 0, 0),
                     ((0, 0, 0, 1, 0), 0, 1), ((0, 0, 0, 1, 1), 1, 2), ((0, 0, 1), 1, 1), ((0, 0, 2), 0, 0),
                     ((0, 1, 0), 2, 2), ((0, 1, 1), 1, 1), ((0, 1, 2), 0, 0), ((1,), 0, 0))

    def test_calls_leave_rows_as_they_were(self):
        self.is_kept([G, PUSH, G, POP], ((0,), 0, 0), ((1,), 0, 0), ((2,), 1, 1), ((3,), 1, 1), ((4,), 0, 0),
                     other=[PUSH, PUSH, POP])

    def test_a_spot_that_only_a_fault_from_below_comes_to(self):
        body = [("guard", [PUSH, G, POP, NONE], [POP])]
        inside = [((0,), 0, 0), ((0, 0, 0), 0, 0), ((0, 0, 1), 1, 1), ((0, 0, 2), 1, 1), ((0, 0, 3), 0, 0)]
        self.is_kept(body, *inside)
        self.is_kept(body, *inside, ((0, 1, 0), 1, 1), ((0, 1, 1), 0, 0), ((1,), 0, 0), other=[MAY])


class Wrong(unittest.TestCase):
    def test_no_function(self):
        for name in ("h", "r", "a", ""):
            for row in ("r", "x"):
                with self.assertRaises(NoSuch) as caught:
                    heights(code([PUSH]), name, row, True)
                self.assertEqual(caught.exception.name, name)

    def test_no_row(self):
        for row in ("x", "a", "f", ""):
            for function in ("f", "g"):
                with self.assertRaises(NoRow) as caught:
                    heights(code([PUSH]), function, row, False)
                self.assertEqual(caught.exception.name, row)


class Compared(unittest.TestCase):
    """Compared with all ways of some length, and with the fact of point 43."""

    MOST = 13

    def check(self, made, name, row, full):
        found = heights(made, name, row, full)
        ways = ways_through(made.named(name).body, self.MOST, faulting(made))
        broken = [one for one in [break_in(*way, row, full) for way in ways] if one is not None]
        if found.kind is None:
            self.assertEqual(broken, [])
            self.check_stretches(made.named(name).body, found.stretches, ways, row, full)
        else:
            self.assertIsNone(found.stretches)
            count = len(found.way) - (found.kind == "left")
            lengths = [len(way) - (kind == "left") for kind, way in broken]
            self.assertLessEqual(count, min(lengths, default=9999))
            if count < self.MOST and (found.kind == "left" or lengths):
                self.assertIn((found.kind, found.way), broken)

    def check_stretches(self, body, stretches, ways, row, full):
        paths = [path for path, _, _ in stretches]
        self.assertEqual(paths, [spot for spot in spots_of(body) if spot in paths])
        outermost = {path: (low, high) for path, low, high in stretches}
        for passed, _ in ways:
            height = 0
            for spot, statement in passed:
                low, high = outermost[spot]
                self.assertTrue(low <= height and (high is None or height <= high), (body, spot))
                self.assertTrue(statement != ("pop", row) or not full or low > 0)
                height = height_behind(statement, row, height)

    def test_random_codes(self):
        dice = random.Random(47)
        for _ in range(250):
            made = dense_code(dice, 9)
            for function in made.functions:
                for row in made.rows:
                    for full in (False, True):
                        self.check(made, function.name, row, full)

    def test_short_bodies_agree_in_both_directions(self):
        dice = random.Random(48)
        for _ in range(300):
            made = dense_code(dice, 4)
            for function in made.functions:
                ways = ways_through(function.body, 15, faulting(made))
                for row in made.rows:
                    found = heights(made, function.name, row, False)
                    if found.stretches is not None:
                        expected = {}
                        for passed, _ in ways:
                            height = 0
                            for spot, statement in passed:
                                expected.setdefault(spot, []).append(height)
                                height = height_behind(statement, row, height)
                        self.assertEqual([path for path, _, _ in found.stretches], sorted(expected))
                        for path, low, high in found.stretches:
                            self.assertEqual(low, min(expected[path]))
                            # Without an end, they grow with the rounds that are done.
                            self.assertTrue(high == max(expected[path]) or (high is None and max(expected[path]) > 2))


class Examples(unittest.TestCase):
    def test_the_examples_of_the_document(self):
        found = ("told", [("stop", "found")], [])
        tries = ("tries", [("push", "r"), ("deeper", "f"), found, ("pop", "r")])
        path = Code([], ["r"], [Function("f", [tries])], "f")
        self.assertEqual([heights(path, "f", "r", False).kind, heights(path, "f", "r", True).stretches], ["left", None])
        self.assertEqual(heights(path, "f", "r", False).way,
                         ((0,), (0, 0, 0), (0, 0, 1), (0, 0, 2), (0, 0, 2, 0, 0), "found"))
        right = Code([], ["r"], [Function("f", [("lastly", [tries], [("cut", "r")])])], "f")
        self.assertEqual([triple for triple in heights(right, "f", "r", True).stretches
                          if triple[2] is not None and triple[2] > 1], [])
        loop = Code([], ["r"], [Function("f", [("tries", [("push", "r")]), ("cut", "r")])], "f")
        self.assertEqual(heights(loop, "f", "r", True).stretches,
                         (((0,), 0, 0), ((0, 0, 0), 0, None), ((0, 0, 1), 1, None), ((1,), 0, None), ((2,), 0, 0)))


if __name__ == "__main__":
    unittest.main()
