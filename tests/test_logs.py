"""Logs: point 48 and the heading tryback/logs.py."""

import itertools
import math
import random
import unittest

from tryback.errors import NoCell, NoEntry, TryError
from tryback.logs import Log


def made(cells, changes):
    log = Log(cells)
    for cell, worth in changes:
        log.change(cell, worth)
    return log


def restored(cells, order):
    """Whether taking entries back in this order restores cells whose worths are all different; cells are told in order.

    Each change of a cell puts in a worth that nothing else is.
    """
    log = Log({cell: cell for cell in "abc"})
    for number, cell in enumerate(cells):
        log.change(cell, number)
    return log.undone(order) == {cell: cell for cell in "abc"}


class Changes(unittest.TestCase):
    def test_a_new_log(self):
        log = Log({"a": 0, "b": None})
        self.assertEqual((log.now, log.entries), ({"a": 0, "b": None}, ()))
        self.assertEqual((log.least(), log.orders(), log.undone([]), log.restores([])), ((), 1, {"a": 0, "b": None}, True))
        self.assertEqual(Log({}).now, {})

    def test_entries_and_contents(self):
        log = made({"a": 0, "b": 5}, [("a", 1), ("b", "x"), ("a", (2,)), ("b", None)])
        self.assertEqual(log.now, {"a": (2,), "b": None})
        self.assertEqual(log.entries, (("a", 0), ("b", 5), ("a", 1), ("b", "x")))
        self.assertIsInstance(log.entries, tuple)

    def test_a_change_to_the_worth_that_is_there(self):
        log = made({"a": 0}, [("a", 0), ("a", 0)])
        self.assertEqual((log.entries, log.least(), log.orders()), ((("a", 0), ("a", 0)), (0,), 1))
        self.assertFalse(log.restores([]))
        self.assertFalse(log.restores([1]))
        self.assertFalse(log.restores([0, 1]))
        self.assertTrue(log.restores([1, 0]))

    def test_change_returns_nothing(self):
        self.assertIsNone(Log({"a": 0}).change("a", 1))

    def test_no_cell(self):
        log = Log({"a": 0})
        for name in ("b", "", "A"):
            with self.assertRaises(NoCell) as caught:
                log.change(name, 1)
            self.assertIsInstance(caught.exception, TryError)
            self.assertEqual(caught.exception.name, name)
        self.assertEqual((log.now, log.entries), ({"a": 0}, ()))

    def test_dicts_handed_in_and_given_out(self):
        cells = {"a": 0, "b": 5}
        log = Log(cells)
        cells["a"] = 9
        cells["c"] = 9
        self.assertEqual(log.now, {"a": 0, "b": 5})
        log.change("a", 1)
        for given in (log.now, log.undone([]), log.undone([0])):
            given["a"] = 7
            del given["b"]
            given["c"] = 7
        self.assertEqual((log.now, log.undone([0]), log.undone(())), ({"a": 1, "b": 5}, {"a": 0, "b": 5}, {"a": 1, "b": 5}))
        before = log.now
        log.change("b", 6)
        self.assertEqual((before, log.now), ({"a": 1, "b": 5}, {"a": 1, "b": 6}))
        with self.assertRaises(NoCell):
            log.change("c", 1)

    def test_logs_are_independent(self):
        cells = {"a": 0}
        one, other = Log(cells), Log(cells)
        one.change("a", 1)
        self.assertEqual((other.now, other.entries), ({"a": 0}, ()))


class Undone(unittest.TestCase):
    def test_from_now_on(self):
        log = made({"a": 0, "b": 5}, [("a", 1), ("b", 6), ("a", 2)])
        self.assertEqual(log.undone([]), {"a": 2, "b": 6})
        self.assertEqual(log.undone([2]), {"a": 1, "b": 6})
        self.assertEqual(log.undone([0]), {"a": 0, "b": 6})
        self.assertEqual(log.undone([0, 2]), {"a": 1, "b": 6})
        self.assertEqual(log.undone([2, 1, 0]), {"a": 0, "b": 5})
        self.assertEqual(log.undone((1, 0, 2, 0)), {"a": 0, "b": 5})

    def test_the_log_stays(self):
        log = made({"a": 0}, [("a", 1), ("a", 2)])
        log.undone([1, 0])
        log.restores([1, 0])
        self.assertEqual((log.now, log.entries), ({"a": 2}, (("a", 0), ("a", 1))))

    def test_no_entry(self):
        log = made({"a": 0}, [("a", 1), ("a", 2)])
        for order, number in [([2], 2), ([-1], -1), ([0, 5, 9], 5), ([0, 1, -7, 2], -7), ([10 ** 30], 10 ** 30), ((2, -1), 2)]:
            for call in (log.undone, log.restores):
                with self.assertRaises(NoEntry) as caught:
                    call(order)
                self.assertIsInstance(caught.exception, TryError)
                self.assertEqual(caught.exception.number, number)
        for call in (Log({"a": 0}).undone, Log({}).restores):
            with self.assertRaises(NoEntry) as caught:
                call([0])
            self.assertEqual(caught.exception.number, 0)
        self.assertEqual(log.now, {"a": 2})


class Restores(unittest.TestCase):
    def test_entries_taken_back_in_part(self):
        log = made({"a": 0, "b": 5}, [("a", 1), ("b", 6), ("a", 2)])
        for order in ([0, 1], [1, 0], [2, 0, 1], [2, 1, 0], [1, 2, 0]):
            self.assertIs(log.restores(order), True)
        for order in ([], [0], [1], [2], [2, 1], [1, 2], [2, 0], [0, 2, 1], [0, 1, 2], [1, 0, 2]):
            self.assertIs(log.restores(order), False)

    def test_numbers_that_come_twice(self):
        log = made({"a": 0}, [("a", 1), ("a", 2)])
        for order in ([0, 0], [1, 0, 0], [0, 1, 0], [1, 1, 0], [0, 1, 1, 0]):
            self.assertTrue(log.restores(order))
        for order in ([0, 1], [0, 0, 1], [0, 1, 0, 1], [1, 1]):
            self.assertFalse(log.restores(order))

    def test_cells_that_are_not_changed(self):
        log = made({"a": 0, "b": 1, "c": 2}, [("b", 5)])
        self.assertTrue(log.restores([0]))
        self.assertFalse(log.restores([]))

    def test_whatever_the_worths_are(self):
        # Here these worths come out as they were, but others would not.
        log = made({"a": 0}, [("a", 1), ("a", 0)])
        self.assertEqual((log.undone([]), log.restores([])), ({"a": 0}, False))
        log = made({"a": 0}, [("a", 0), ("a", 0)])
        self.assertEqual((log.undone([1]), log.restores([1])), ({"a": 0}, False))

    def test_orders_agree_with_worths_that_are_all_different(self):
        for cells in ("", "a", "aa", "ab", "aab", "aba", "abc", "abab", "aabb"):
            log = made({cell: 0 for cell in "abc"}, [(cell, 1) for cell in cells])
            for many in range(len(cells) + 2):
                for order in itertools.product(range(len(cells)), repeat=many):
                    self.assertEqual(log.restores(order), restored(cells, order), (cells, order))


class LeastAndOrders(unittest.TestCase):
    def test_least(self):
        log = made({"a": 0, "b": 0, "c": 0}, [("c", 1), ("c", 2), ("a", 1), ("c", 3), ("b", 1), ("a", 2)])
        self.assertEqual(log.least(), (0, 2, 4))
        self.assertIsInstance(log.least(), tuple)
        self.assertTrue(log.restores(log.least()))
        log.change("a", 3)
        self.assertEqual(log.least(), (0, 2, 4))

    def test_no_smaller_set_restores(self):
        log = made({"a": 0, "b": 0, "c": 0}, [("b", 1), ("a", 1), ("b", 2), ("a", 2)])
        for many in range(3):
            for order in itertools.permutations(range(4), many):
                self.assertEqual(log.restores(order), sorted(order) == list(log.least()))

    def test_orders(self):
        cases = [("a", 1), ("aa", 1), ("ab", 2), ("aab", 3), ("aabb", 6), ("abc", 6), ("aaabbc", 120)]
        for cells, many in cases:
            self.assertEqual(made({cell: 0 for cell in "abc"}, [(cell, 1) for cell in cells]).orders(), many)

    def test_orders_are_counted(self):
        dice = random.Random(51)
        for _ in range(30):
            cells = [dice.choice("abc") for _ in range(dice.randrange(7))]
            log = made({cell: 0 for cell in "abc"}, [(cell, number) for number, cell in enumerate(cells)])
            orders = [order for order in itertools.permutations(range(len(cells))) if log.restores(order)]
            self.assertEqual(log.orders(), len(orders))

    def test_great_numbers(self):
        log = made({"a": 0, "b": 0}, [("ab"[number > 30], number) for number in range(400)])
        self.assertEqual(log.orders(), math.factorial(400) // (31 * 369))
        self.assertEqual(log.least(), (0, 31))


class Example(unittest.TestCase):
    def test_the_example_of_the_document(self):
        log = Log({"a": 0, "b": 5})
        log.change("a", 1)
        log.change("b", 6)
        log.change("a", 2)
        self.assertEqual([log.entries, log.least(), log.orders()], [(("a", 0), ("b", 5), ("a", 1)), (0, 1), 3])
        self.assertEqual([log.restores([2, 1, 0]), log.restores([0, 1, 2]), log.undone([0, 1, 2])],
                         [True, False, {"a": 1, "b": 5}])


if __name__ == "__main__":
    unittest.main()
