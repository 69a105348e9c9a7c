"""Mending a cell: points 44 to 47 and the heading tryback/mending.py."""

import itertools
import random
import unittest

from samples import MAY, dense_code, ways_through
from tryback.codes import Code, Function
from tryback.errors import NoCell, NoSpot, NoSuch, TooGreat, TooMany
from tryback.mending import Mending, allowed, least_sets, mended, mending, needless
from tryback.texts import written
from tryback.ways import faulting, spots_of

A, B, BLANK, GIVE = ("put", "a"), ("put", "b"), ("blank", "a"), ("give", "a")
F, G = ("deeper", "f"), ("deeper", "g")
FOUND, NONE, FAULT = ("stop", "found"), ("stop", "none"), ("fault",)
AGAIN, OUT = ("again",), ("out",)
COPY, VIEW = ("answer", "copy"), ("answer", "view")


def code(body, other=()):
    return Code(["a", "b"], ["r"], [Function("f", body), Function("g", other)], "f")


def either(first, second=()):
    return ("either", first, second)


def is_late(body, spot):
    """Whether the spot stands in the second part of a lastly."""
    part = body
    for at in range(0, len(spot) - 1, 2):
        statement = part[spot[at]]
        if statement[0] == "lastly" and spot[at + 1] == 1:
            return True
        part = [entry for entry in statement if not isinstance(entry, str)][spot[at + 1]]
    return False


def closes(statement, cell):
    return statement in (("put", cell), ("blank", cell), ("give", cell))


def open_in(passed, end, cell, gone=()):
    """The open way at the end of this way, without the gives at the spots that are gone; None if there is none."""
    start = None
    for number, (spot, statement) in enumerate(passed):
        if statement in (("put", cell), ("blank", cell)):
            start = number
        elif statement == ("give", cell) and spot not in gone:
            start = None
    return None if start is None else (*[spot for spot, _ in passed[start:]], end)


def allowed_in(body, ways, cell):
    """The spots that are allowed as far as these ways tell."""
    seen, wrong = set(), set()
    for passed, _ in ways:
        for number, (spot, _) in enumerate(passed):
            seen.add(spot)
            for _, statement in passed[number:]:
                if statement is not None and (statement[0] == "deeper" or statement == COPY
                                              or statement[:2] == ("look", cell)):
                    wrong.add(spot)
                if statement is not None and (spot in wrong or closes(statement, cell)):
                    break
    return tuple(sorted(spot for spot in seen - wrong if not is_late(body, spot)))


class Case(unittest.TestCase):
    def check_mending(self, made, count, first=None, last=None, name="f", cell="a"):
        """A cell can be mended with so many spots; what is told of it fits together."""
        found = mending(made, name, cell)
        self.assertIsInstance(found, Mending)
        places = set(allowed(made, name, cell))
        self.assertEqual((found.count, found.stuck), (count, None))
        for told in (found.first, found.last):
            self.assertIsInstance(told, tuple)
            self.assertEqual((list(told), len(told)), (sorted(set(told)), count))
            self.assertLessEqual(set(told), places)
        if first is not None:
            self.assertEqual(found.first, first)
        if last is not None:
            self.assertEqual(found.last, last)
        self.assertIsInstance(found.ways, tuple)
        self.assertEqual(len(found.ways), count)
        passed = [spot for way in found.ways for spot in set(way[1:-1]) & places]
        self.assertEqual(len(passed), len(set(passed)))
        for way in found.ways:
            self.check_open(made, way, name, cell)
        return found

    def check_open(self, made, way, name="f", cell="a"):
        """This is an open way."""
        statements = self.statements_at(made.named(name).body, ())
        self.assertIn(statements[way[0]], [("put", cell), ("blank", cell)])
        for spot in way[1:-1]:
            self.assertFalse(closes(statements[spot], cell))
        self.assertIn(way[-1], ["found", "none", "fault"])

    def statements_at(self, part, path):
        found = {(*path, len(part)): None}
        for number, statement in enumerate(part):
            found[(*path, number)] = statement
            for at, inner in enumerate([entry for entry in statement if not isinstance(entry, str)]):
                found.update(self.statements_at(inner, (*path, number, at)))
        return found

    def check_stuck(self, made, *ways, name="f", cell="a"):
        """No set mends the cell, and one of these ways shows it."""
        found = mending(made, name, cell)
        self.assertEqual((found.count, found.first, found.last, found.ways), (None, None, None, None))
        self.check_open(made, found.stuck, name, cell)
        self.assertFalse(set(found.stuck[1:-1]) & set(allowed(made, name, cell)))
        if ways:
            self.assertIn(found.stuck, ways)
        self.assertEqual(least_sets(made, name, cell), [])
        self.assertIsNone(needless(made, name, cell))


class Allowed(unittest.TestCase):
    def allows(self, body, *spots, other=(), cell="a"):
        self.assertEqual(allowed(code(body, other), "f", cell), spots)

    def test_ahead_of_a_deeper(self):
        self.allows([F], (1,))
        self.allows([A, ("tries", []), F, B], (0,), (3,), (4,))
        self.allows([G, GIVE, G], (1,), (3,))
        self.allows([A, F], (0,), (2,))

    def test_ahead_of_a_copy(self):
        self.allows([COPY, VIEW], (1,), (2,))
        self.allows([VIEW, A, COPY], (0,), (1,), (3,))

    def test_ahead_of_a_look_at_the_cell(self):
        self.allows([("look", "a", [], []), B], (0, 0, 0), (0, 1, 0), (1,), (2,))
        self.allows([("look", "b", [], []), B], (0,), (0, 0, 0), (0, 1, 0), (1,), (2,))
        self.allows([("look", "a", [], []), B], (0,), (0, 0, 0), (0, 1, 0), (1,), (2,), cell="b")

    def test_the_next_change_or_give_comes_first(self):
        for change in (A, BLANK, GIVE):
            self.allows([change, F], (0,), (2,))
            self.allows([either([change]), F], (0, 0, 0), (2,))
            self.allows([("tries", [change]), COPY], (0, 0, 0), (2,))
        self.allows([B, F], (2,))

    def test_again_and_further_rounds(self):
        self.allows([("tries", [F])], (1,))
        self.allows([("tries", [F, OUT])], (0, 0, 1), (1,))
        self.allows([("tries", [F, either([OUT], [AGAIN])])], (0, 0, 1, 0, 0), (1,))
        self.allows([("tries", [F, A])], (0, 0, 1), (1,))

    def test_the_second_part_of_a_lastly(self):
        self.allows([("lastly", [], [A])], (0,), (0, 0, 0), (1,))
        # Through it, the way may come to a deeper.
        self.allows([("lastly", [MAY], [B]), F], (2,))
        self.allows([("lastly", [MAY], [A]), F], (0,), (0, 0, 0), (0, 0, 1), (2,))

    def test_spots_that_no_way_passes(self):
        self.allows([FOUND, B], (0,))
        self.allows([("guard", [], [A])], (0,), (0, 0, 0), (1,))
        self.allows([("guard", [G], [A])], (0, 0, 1), (0, 1, 0), (0, 1, 1), (1,), other=[MAY])
        self.allows([("guard", [G], [A])], (0, 0, 1), (1,))


class Mendings(Case):
    def test_a_cell_that_is_given_back_already(self):
        for body in ([], [GIVE], [A, GIVE], [("lastly", [A, MAY, FOUND], [GIVE])], [B], [FOUND, A],
                     [("tries", [A, either([GIVE, OUT], [BLANK, GIVE])])]):
            self.check_mending(code(body), 0, (), ())
            self.assertEqual(least_sets(code(body), "f", "a"), [()])

    def test_one_spot(self):
        self.check_mending(code([A]), 1, ((1,),), ((1,),))
        self.check_mending(code([BLANK, B, B]), 1, ((1,),), ((3,),))
        self.check_mending(code([A, F, B]), 1, ((2,),), ((3,),))
        self.check_mending(code([either([A], [BLANK]), VIEW]), 1, ((1,),), ((2,),))
        self.check_mending(code([A, F, A]), 1, ((3,),), ((3,),))

    def test_several_spots(self):
        self.check_mending(code([either([A], [BLANK]), F]), 1, ((2,),), ((2,),))
        self.check_mending(code([A, F, either([FOUND, B], [NONE])]), 1, ((2,),), ((2,),))
        self.check_mending(code([either([A, FOUND], [A, NONE])]), 2, ((0, 0, 1), (0, 1, 1)), ((0, 0, 1), (0, 1, 1)))
        self.check_mending(code([either([A, VIEW, FOUND], [A, NONE])]), 2, ((0, 0, 1), (0, 1, 1)), ((0, 0, 2), (0, 1, 1)))

    def test_a_fork_of_one_change(self):
        made = code([("guard", [A, G, FOUND], [NONE])], [MAY])
        found = self.check_mending(made, 2, ((0, 0, 2), (0, 1, 0)), ((0, 0, 2), (0, 1, 0)))
        self.assertEqual(sorted(found.ways), [((0, 0, 0), (0, 0, 1), (0, 0, 2), "found"),
                                              ((0, 0, 0), (0, 0, 1), (0, 1, 0), "none")])
        # A common spot behind them is enough.
        self.check_mending(code([("guard", [A, G], [])], [MAY]), 1, ((1,),), ((1,),))

    def test_changes_ahead_of_another_change_are_not_open(self):
        found = self.check_mending(code([A, F, BLANK, VIEW]), 1, ((3,),), ((4,),))
        self.assertEqual(found.ways, (((2,), (3,), (4,), "none"),))

    def test_a_way_that_comes_back_to_its_own_change(self):
        # In a later round the change is made again, so that only the last round is open.
        found = self.check_mending(code([("tries", [A, F])]), 1, ((0, 0, 2),), ((1,),))
        self.assertEqual(found.ways, (((0, 0, 0), (0, 0, 1), (0, 0, 2), (1,), "none"),))
        self.check_mending(code([("tries", [either([A], [F])])]), 1, ((1,),), ((1,),))

    def test_changes_in_the_second_part_of_a_lastly(self):
        made = code([("lastly", [MAY], [A]), B])
        self.check_stuck(made, ((0, 1, 0), (0, 1, 1), "fault"))
        made = code([("lastly", [], [A]), B])
        found = self.check_mending(made, 1, ((1,),), ((2,),))
        self.assertEqual(found.ways, (((0, 1, 0), (0, 1, 1), (1,), (2,), "none"),))
        self.check_mending(code([A, ("lastly", [MAY], [BLANK, GIVE])]), 0, (), ())
        self.check_mending(code([A, ("lastly", [], [B])]), 1, ((1,),), ((2,),))
        # Its spots are not allowed, those of its first part are.
        self.check_mending(code([A, G, ("lastly", [MAY], [B])]), 1, ((2,),), ((2, 0, 0),))

    def test_a_give_in_the_second_part_of_a_lastly(self):
        self.check_mending(code([("lastly", [A, F, MAY], [GIVE])]), 0)
        self.check_mending(code([("lastly", [A, F, MAY], [GIVE]), A, A]), 1, ((3,),), ((3,),))

    def test_moods(self):
        # Behind the fault there is a rescue, behind the end of the part another spot.
        made = code([("guard", [("lastly", [A, MAY], []), FOUND], [NONE])])
        self.check_mending(made, 1, ((0, 0, 0, 0, 1),), ((0, 0, 0, 0, 1),))
        made = code([("guard", [("lastly", [MAY], [A]), FOUND], [NONE])])
        self.check_mending(made, 2, ((0, 0, 1), (0, 1, 0)), ((0, 0, 1), (0, 1, 0)))

    def test_no_set_mends(self):
        self.check_stuck(code([A, G], [MAY]), ((0,), (1,), "fault"))
        self.check_stuck(code([("lastly", [], [A])] * 2 + [("lastly", [FOUND], [BLANK])]), ((2, 1, 0), (2, 1, 1), "found"))
        self.check_stuck(code([either([A, GIVE, A, G, GIVE])], [MAY]), ((0, 0, 2), (0, 0, 3), "fault"))
        # With a deeper in each round, the only allowed spots are not on the way of the fault.
        self.check_stuck(code([A, ("tries", [G]), GIVE], [MAY]))
        self.check_stuck(code([A, ("lastly", [G], [B]), B], [MAY]), ((0,), (1,), (1, 0, 0), (1, 1, 0), (1, 1, 1), "fault"))

    def test_spots_of_this_function_and_this_cell_alone(self):
        made = code([A, B], [BLANK])
        self.check_mending(made, 1, ((1,),), ((2,),))
        self.check_mending(made, 1, ((2,),), ((2,),), cell="b")
        self.check_mending(made, 1, ((1,),), ((1,),), name="g")
        self.check_mending(made, 0, (), (), name="g", cell="b")


class LeastSets(Case):
    def sets(self, body, *expected, other=()):
        found = least_sets(code(body, other), "f", "a")
        self.assertIsInstance(found, list)
        self.assertEqual(found, list(expected))
        if expected:
            self.check_mending(code(body, other), len(expected[0]))

    def test_all_of_them_in_order(self):
        self.sets([A, B, B], ((1,),), ((2,),), ((3,),))
        self.sets([either([A, B, FOUND], [A, B, NONE])], ((0, 0, 1), (0, 1, 1)), ((0, 0, 1), (0, 1, 2)),
                  ((0, 0, 2), (0, 1, 1)), ((0, 0, 2), (0, 1, 2)))
        self.sets([A, either([B], [])], ((1,),), ((2,),))
        self.sets([A, F, either([VIEW], [COPY])], ((3,),))

    def test_the_empty_set(self):
        self.sets([A, GIVE], ())
        self.sets([], ())

    def test_none(self):
        self.sets([A, G], other=[MAY])

    def test_too_many(self):
        body = [A, *[VIEW] * 13]
        self.assertEqual(len(least_sets(code(body), "f", "a")), 13 + 1)
        # Each of these blocks adds its own spot and those of its parts.
        for blocks in range(3, 7):
            body = [A, *[either([], [])] * blocks, *[VIEW] * (9 - blocks)]
            many = 1 + 9 + 2 * blocks
            if many <= 16:
                self.assertEqual(len(least_sets(code(body), "f", "a")), 10)
            else:
                with self.assertRaises(TooMany) as caught:
                    least_sets(code(body), "f", "a")
                self.assertEqual(caught.exception.count, many)

    def test_exactly_as_many_as_are_told(self):
        body = [A, *[either([], [])] * 3, *[VIEW] * 6]
        self.assertEqual(len(least_sets(code(body), "f", "a")), 10)
        with self.assertRaises(TooMany) as caught:
            least_sets(code([*body, VIEW]), "f", "a")
        self.assertEqual(caught.exception.count, 17)

    def test_only_spots_on_open_ways_count(self):
        body = [*[VIEW] * 8, ("look", "b", [A, GIVE], [A]), VIEW, FOUND]
        self.assertEqual(least_sets(code(body), "f", "a"), [((8, 1, 1),), ((9,),), ((10,),)])
        body = [A, GIVE, *[either([], [])] * 6, B]
        self.assertEqual(least_sets(code(body), "f", "a"), [()])

    def test_no_set_comes_ahead_of_too_many(self):
        body = [either([A, G], [A]), *[either([], [])] * 8]
        made = code(body, [MAY])
        self.assertEqual(least_sets(made, "f", "a"), [])


class Mended(Case):
    def texts(self, body, spots, expected, other=(), cell="a"):
        made = code(body, other)
        new = mended(made, "f", cell, spots)
        self.assertIsInstance(new, Code)
        self.assertEqual(new, code(expected, other))
        self.assertEqual(made, code(body, other))

    def test_gives_are_put_in(self):
        self.texts([], [(0,)], [GIVE])
        self.texts([A, B], [(0,), (2,)], [GIVE, A, B, GIVE])
        self.texts([A, B], [(1,)], [A, ("give", "b"), B], cell="b")
        self.texts([("tries", [A])], [(0, 0, 1), (1,)], [("tries", [A, GIVE]), GIVE])
        body = [("guard", [A, either([F], [MAY])], [("look", "a", [], [B])])]
        self.texts(body, [(0, 0, 1, 1, 0), (0, 1, 0, 0, 0), (0, 0, 1)],
                   [("guard", [A, GIVE, either([F], [GIVE, MAY])], [("look", "a", [GIVE], [B])])])

    def test_all_spots(self):
        body = [("tries", [either([A], [F])]), ("lastly", [], [B]), ("told", [], [FOUND])]
        spots = spots_of(body)
        with self.assertRaises(TooGreat):
            mended(code(body), "f", "a", spots)
        for spot in spots:
            new = mended(code(body), "f", "a", [spot])
            self.assertEqual(written(new).count("give a"), 1)
            self.assertEqual(new.named("f").many, 9)

    def test_no_spots(self):
        self.texts([A, F], [], [A, F])
        self.texts([A, F], (), [A, F])

    def test_spots_told_twice(self):
        self.texts([A, B], [(1,), (1,), (2,), (1,)], [A, GIVE, B, GIVE])
        self.texts([A] * 13, [(3,)] * 5, [A] * 3 + [GIVE] + [A] * 10)

    def test_spots_of_the_given_code(self):
        self.texts([A, B, F], ((2,), (1,), (0,)), [GIVE, A, GIVE, B, GIVE, F])

    def test_the_second_part_of_a_lastly(self):
        self.texts([("lastly", [A], [B])], [(0, 1, 0), (0, 1, 1)], [("lastly", [A], [GIVE, B, GIVE])])
        self.texts([("lastly", [A], [])], [(0, 1, 0)], [("lastly", [A], [GIVE])])

    def test_other_functions_stay(self):
        made = code([F, G], [A])
        self.assertEqual(mended(made, "g", "a", [(1,)]), code([F, G], [A, GIVE]))
        self.assertEqual(mended(made, "g", "a", [(1,)]).start, "f")

    def test_no_spot(self):
        made = code([A, ("tries", [B]), F])
        for wrong in [(4,), (), (0, 0, 0), (1, 0), (1, 1, 0), (1, 0, 2), (-1,), (1, 0, 0, 0, 0), (99,)]:
            for spots in ([wrong], [(0,), wrong], [(0,), (0,), wrong, (77,), (0,)], (wrong, (1, 0, 1))):
                with self.assertRaises(NoSpot) as caught:
                    mended(made, "f", "a", spots)
                self.assertEqual(caught.exception.spot, wrong)

    def test_too_great_comes_last(self):
        made = code([A] * 14)
        with self.assertRaises(TooGreat):
            mended(made, "f", "a", [(3,)])
        with self.assertRaises(TooGreat):
            mended(code([A] * 13), "f", "a", [(3,), (4,)])
        with self.assertRaises(NoSpot):
            mended(made, "f", "a", [(3,), (15,)])

    def test_least_sets_mend(self):
        dice = random.Random(49)
        mended_ones = 0
        for _ in range(200):
            made = dense_code(dice, 10)
            for function in made.functions:
                for cell in made.cells:
                    found = mending(made, function.name, cell)
                    if found.count:
                        for spots in (found.first, found.last):
                            new = mended(made, function.name, cell, spots)
                            self.assertEqual(mending(new, function.name, cell).count, 0)
                            mended_ones += 1
        self.assertGreater(mended_ones, 50)


class Needless(Case):
    def needs(self, body, *expected, other=()):
        self.assertEqual(needless(code(body, other), "f", "a"), expected)

    def test_none_if_some_way_is_open(self):
        for body in ([A], [GIVE, A], [A, MAY, GIVE], [either([A, GIVE], [A])]):
            self.assertIsNone(needless(code(body), "f", "a"))

    def test_gives_that_may_go(self):
        self.needs([])
        self.needs([A, GIVE])
        self.needs([GIVE], (0,))
        self.needs([GIVE, A, GIVE], (0,))
        self.needs([A, GIVE, BLANK, GIVE], (1,))
        self.needs([("tries", [GIVE, either([GIVE], [])]), GIVE], (0, 0, 0), (0, 0, 1, 0, 0), (1,))

    def test_one_of_two(self):
        self.assertIn(needless(code([A, GIVE, GIVE]), "f", "a"), [((1,),), ((2,),)])
        self.assertIn(needless(code([A, GIVE, F, GIVE, GIVE]), "f", "a"),
                      [((1,), (3,)), ((1,), (4,)), ((3,), (4,))])

    def test_the_greatest_set(self):
        # One give behind both parts does the work of two.
        self.needs([either([A, GIVE], [BLANK, GIVE]), GIVE], (0, 0, 1), (0, 1, 1))
        self.needs([A, GIVE, either([GIVE], [GIVE])], (2, 0, 0), (2, 1, 0))

    def test_statements_that_no_way_passes(self):
        self.needs([A, GIVE, FOUND, GIVE, A], (3,))

    def test_gives_in_the_second_part_of_a_lastly_stay(self):
        self.needs([("lastly", [A], [GIVE])])
        self.needs([("lastly", [A, GIVE], [GIVE])], (0, 0, 1))
        self.needs([("lastly", [], [GIVE])])
        self.needs([("lastly", [A, MAY], [GIVE, GIVE]), GIVE], (1,))
        self.needs([("lastly", [], [A]), GIVE])

    def test_gives_of_other_cells(self):
        self.needs([A, ("give", "b"), GIVE])


class Wrong(unittest.TestCase):
    def calls(self, made, function, cell):
        yield lambda: allowed(made, function, cell)
        yield lambda: mending(made, function, cell)
        yield lambda: least_sets(made, function, cell)
        yield lambda: needless(made, function, cell)
        # A wrong spot, and a code that would be too great, come later.
        yield lambda: mended(made, function, cell, [(99,)])
        yield lambda: mended(made, function, cell, [(0,), (1,)])

    def test_no_function_then_no_cell(self):
        made = code([A] * 14, [B] * 14)
        for name in ("h", "a", "r", ""):
            for cell in ("a", "x"):
                for call in self.calls(made, name, cell):
                    with self.assertRaises(NoSuch) as caught:
                        call()
                    self.assertEqual(caught.exception.name, name)
        for name in ("f", "g"):
            for cell in ("x", "f", "r", ""):
                for call in self.calls(made, name, cell):
                    with self.assertRaises(NoCell) as caught:
                        call()
                    self.assertEqual(caught.exception.name, cell)

    def test_ahead_of_too_many(self):
        made = code([A, *[either([], [])] * 8])
        with self.assertRaises(TooMany):
            least_sets(made, "f", "a")
        with self.assertRaises(NoCell):
            least_sets(made, "f", "x")
        with self.assertRaises(NoSuch):
            least_sets(made, "x", "x")


class Compared(Case):
    """Compared with all ways of some length, and with all sets of spots."""

    def check(self, made, function, cell):
        ways = ways_through(function.body, 20, faulting(made))
        places = allowed(made, function.name, cell)
        told = allowed_in(function.body, ways, cell)
        opened = {open_in(*way, cell) for way in ways} - {None}
        needs = [set(way[1:-1]) & set(places) for way in opened]
        found = mending(made, function.name, cell)
        self.assertEqual(places, told)
        if found.count is None:
            self.check_stuck(made, name=function.name, cell=cell)
            self.assertIn(set(), needs)
            return
        self.check_mending(made, found.count, name=function.name, cell=cell)
        self.check_sets(made, function, cell, found, [set(way[1:-1]) for way in opened], sorted(opened, key=str))
        self.check_needless(made, function, cell, ways, found.count)

    def check_sets(self, made, function, cell, found, needs, opened):
        choices = [place for place in allowed(made, function.name, cell) if any(place in need for need in needs)]
        if len(choices) > 16:
            with self.assertRaises(TooMany) as caught:
                least_sets(made, function.name, cell)
            self.assertEqual(caught.exception.count, len(choices))
            return
        least = [chosen for chosen in itertools.combinations(choices, found.count)
                 if all(set(chosen) & need for need in needs)]
        self.assertEqual(least_sets(made, function.name, cell), least)
        for many in range(found.count):
            self.assertFalse([chosen for chosen in itertools.combinations(choices, many)
                              if all(set(chosen) & need for need in needs)])
        for way in opened:
            def place_of(chosen):
                return min(number for number, spot in enumerate(way[1:-1]) if spot in chosen)

            for chosen in least:
                self.assertTrue(place_of(found.first) <= place_of(chosen) <= place_of(found.last))

    def check_needless(self, made, function, cell, ways, count):
        told = needless(made, function.name, cell)
        if count > 0:
            self.assertIsNone(told)
            return
        statements = self.statements_at(function.body, ())
        gives = [spot for spot in sorted(statements)
                 if statements[spot] == ("give", cell) and not is_late(function.body, spot)]
        good = [gone for many in range(len(gives) + 1) for gone in itertools.combinations(gives, many)
                if all(open_in(*way, cell, gone) is None for way in ways)]
        self.assertIn(told, good)
        self.assertEqual(len(told), len(good[-1]))

    def test_random_codes(self):
        dice = random.Random(50)
        for _ in range(500):
            made = dense_code(dice, 7)
            for function in made.functions:
                # All that matters comes about in ways of some length only in bodies that are short.
                if len(spots_of(function.body)) <= 9:
                    for cell in made.cells:
                        self.check(made, function, cell)


class Examples(unittest.TestCase):
    def test_the_examples_of_the_document(self):
        found = ("told", [("stop", "found")], [])
        search = Code(["a"], [], [Function("f", [("tries", [("put", "a"), ("deeper", "f"), found])])], "f")
        self.assertEqual(allowed(search, "f", "a"),
                         ((0,), (0, 0, 0), (0, 0, 2), (0, 0, 2, 0, 0), (0, 0, 2, 1, 0), (0, 0, 3), (1,)))
        told = mending(search, "f", "a")
        self.assertEqual([told.count, told.first, told.last, len(told.ways), told.stuck],
                         [1, ((0, 0, 2),), ((0, 0, 2),), 1, None])
        fixed = mended(search, "f", "a", [(0, 0, 2)])
        self.assertEqual([mending(fixed, "f", "a").count, needless(fixed, "f", "a"), needless(search, "f", "a")],
                         [0, (), None])
        self.assertEqual(least_sets(search, "f", "a"), [((0, 0, 2),)])


if __name__ == "__main__":
    unittest.main()
