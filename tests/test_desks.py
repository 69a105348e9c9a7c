"""Desks: points 28 to 32 and the heading tryback/desks.py."""

import inspect
import random
import unittest

from samples import MAY, answered, code, random_code, told_of
from tryback import desks
from tryback.codes import Code, Function
from tryback.desks import Desk
from tryback.errors import Ended, NothingToUndo, TooGreat
from tryback.puzzles import Puzzle
from tryback.runs import Run, run

A, B, C, D = ("put", "a"), ("put", "b"), ("push", "r"), ("push", "s")
F, G = ("deeper", "f"), ("deeper", "g")
COPY, VIEW = ("answer", "copy"), ("answer", "view")
FOUND, FAULT = ("stop", "found"), ("fault",)


def state(desk):
    """All that a desk tells."""
    return [desk.due(), told_of(desk.report()), desk.so_far().spelling, desk.answers_given(), desk.left_open()]


def desk_of(made, answers):
    """A desk of the code with these answers."""
    desk = Desk(made)
    for answer in answers:
        desk.say(answer)
    return desk


class Case(unittest.TestCase):
    def nothing(self, *asks):
        for ask in asks:
            with self.assertRaises(NothingToUndo):
                ask()

    def ended(self, desk):
        for answer in (0, 1):
            with self.assertRaises(Ended):
                desk.say(answer)

    def asks(self, made, steps):
        """A desk asks each of these questions and is given the answer beside it."""
        desk = Desk(made)
        for due, answer in steps:
            self.assertEqual(desk.due(), due)
            if due is not None:
                desk.say(answer)
        return desk


class Asking(Case):
    def test_words_paths_and_names(self):
        made = code([("either", [], []), ("tries", [G]), MAY, F], [MAY, F])
        self.asks(made, [(("either", (), "f"), 1), (("tries", (), "f"), 1), (("deeper", (), "g"), 1), (("may", (0,), "g"), 0),
                         (("deeper", (0,), "f"), 1), (("either", (0, 0), "f"), 0), (("tries", (0, 0), "f"), 0),
                         (("may", (0, 0), "f"), 0), (("deeper", (0, 0), "f"), 0), (("tries", (), "f"), 1),
                         (("deeper", (), "g"), 0), (("tries", (), "f"), 1), (("deeper", (), "g"), 1), (("may", (2,), "g"), 1),
                         (None, None)])

    def test_the_path_of_a_deeper_is_that_of_the_caller(self):
        made = code([F, G], [F])
        self.asks(made, [(("deeper", (), "f"), 1), (("deeper", (0,), "f"), 0), (("deeper", (0,), "g"), 1),
                         (("deeper", (0, 1), "f"), 0), (("deeper", (), "g"), 1), (("deeper", (1,), "f"), 0), (None, None)])

    def test_due_asked_twice(self):
        desk = Desk(code([A, ("tries", [C, G])], [MAY]))
        for due, answer in [(("tries", (), "f"), 1), (("deeper", (), "g"), 1), (("may", (0,), "g"), 0), (("tries", (), "f"), 0),
                            (None, None)]:
            self.assertEqual([desk.due(), desk.due(), desk.due()], [due] * 3)
            told = state(desk)
            self.assertEqual(state(desk), told)
            if due is not None:
                desk.say(answer)

    def test_a_run_that_asks_nothing(self):
        for body, way in [([], "none"), ([A, C, FOUND], "found"), ([("told", [MAY], [FAULT])], "fault")]:
            desk = Desk(code(body))
            self.assertIsNone(desk.due())
            self.assertEqual(desk.report().way, way)
            self.assertEqual([desk.so_far().spelling, desk.answers_given(), desk.left_open()], [".", [], []])
            self.ended(desk)
            self.nothing(desk.undo, desk.redo)

    def test_it_stands_ahead_of_the_first_question(self):
        desk = Desk(code([A, C, COPY, MAY, B]))
        self.assertEqual(desk.report().trace, (("enter", "f"), A, C, COPY))
        self.assertEqual(Desk(code([MAY])).report().trace, (("enter", "f"),))
        self.assertEqual(desk.due(), ("may", (), "f"))

    def test_questions_inside_blocks(self):
        made = code([("guard", [("lastly", [MAY, MAY], [A])], [("either", [B], [])]), ("look", "a", [MAY], [F])])
        self.asks(made, [(("may", (), "f"), 0), (("may", (), "f"), 1), (("either", (), "f"), 1), (("may", (), "f"), 0), (None, 0)])
        self.asks(code([("tries", [("tries", [("out",)]), MAY])]),
                  [(("tries", (), "f"), 1), (("tries", (), "f"), 1), (("may", (), "f"), 0), (("tries", (), "f"), 0), (None, 0)])

    def test_desks_do_not_share_anything(self):
        made = code([("tries", [A, C, G])], [B])
        first, second = Desk(made), Desk(made)
        first.say(1)
        self.assertEqual((first.due(), second.due()), (("deeper", (), "g"), ("tries", (), "f")))
        told = state(second)
        first.say(1)
        self.assertEqual(state(second), told)
        second.say(0)
        self.assertEqual((first.due(), second.due()), (("tries", (), "f"), None))


class Saying(Case):
    def test_bits(self):
        made = code([("either", [A], [B]), MAY, ("tries", [C])])
        self.assertEqual(desk_of(made, [1, 0, 1, 1, 0]).report().trace[1:-1], (A, C, C))
        self.assertEqual(desk_of(made, [0, 0, 0]).report().trace[1:-1], (B,))
        self.assertEqual(desk_of(made, [0, 1]).report().trace[1:], (B, ("leave", "fault")))
        self.assertEqual(desk_of(made, [1, 0, 1]).report().rows[0], (((), 1),))

    def test_children(self):
        made = code([G, G, A], [("either", [C], [D])])
        desk = desk_of(made, [0, 1, 1])
        self.assertEqual(desk.report().trace, (("enter", "f"), ("miss", "g"), ("enter", "g"), C, ("leave", "none"), A,
                                               ("leave", "none")))
        self.assertEqual([(one.path, one.function) for one in desk.report().visits], [((), "f"), ((1,), "g")])

    def test_say_undo_and_redo_return_nothing(self):
        desk = Desk(code([MAY, F]))
        self.assertEqual([desk.say(0), desk.undo(), desk.redo(), desk.say(1), desk.undo(), desk.say(0)], [None] * 6)

    def test_ended(self):
        desk = desk_of(code([A, MAY, B]), [0])
        told = state(desk)
        self.ended(desk)
        self.assertEqual(state(desk), told)
        desk.undo()
        desk.say(1)
        self.ended(desk)
        self.assertEqual(desk.report().way, "fault")

    def test_ended_behind_a_new_answer(self):
        desk = desk_of(code([("either", [], [MAY])]), [0, 1])
        desk.undo()
        desk.undo()
        desk.say(1)
        self.ended(desk)
        self.nothing(desk.redo)
        self.assertEqual(desk.answers_given(), [1])

    def test_500_nodes(self):
        desk = Desk(code([("tries", [A, F])]))
        for _ in range(499):
            desk.say(1)
            desk.say(1)
            desk.say(0)
        self.assertEqual(desk.so_far().size, 500)
        desk.say(1)
        self.too_great(desk, ("deeper", (), "f"))
        desk.say(0)
        self.assertEqual(desk.due(), ("tries", (), "f"))
        desk.say(1)
        self.too_great(desk, ("deeper", (), "f"))
        # With one child less there is room again.
        for _ in range(4):
            desk.undo()
        self.assertEqual((desk.due(), desk.so_far().size), (("tries", (498,), "f"), 500))
        desk.undo()
        self.assertEqual((desk.due(), desk.so_far().size), (("deeper", (), "f"), 499))
        desk.say(0)
        desk.say(1)
        desk.say(1)
        self.assertEqual(desk.so_far().size, 500)

    def test_30_levels(self):
        desk = Desk(code([C, F, F]))
        for _ in range(29):
            desk.say(1)
        self.assertEqual(desk.so_far().depth, 30)
        self.too_great(desk, ("deeper", (0,) * 29, "f"))
        desk.say(0)
        self.too_great(desk, ("deeper", (0,) * 29, "f"))
        desk.say(0)
        self.assertEqual(desk.due(), ("deeper", (0,) * 28, "f"))
        desk.say(1)
        self.assertEqual(desk.due(), ("deeper", (*(0,) * 28, 1), "f"))
        self.too_great(desk, ("deeper", (*(0,) * 28, 1), "f"))

    def too_great(self, desk, due):
        """A child is refused, and everything is as it was, also what can be given again."""
        desk.say(0)
        desk.undo()
        told = state(desk)
        self.assertEqual(desk.due(), due)
        for _ in range(2):
            with self.assertRaises(TooGreat):
                desk.say(1)
            self.assertEqual(state(desk), told)
        desk.redo()
        self.assertEqual(desk.answers_given(), [*told[3], 0])
        desk.undo()
        self.assertEqual(state(desk), told)

    def test_bits_have_no_bound(self):
        desk = Desk(code([("tries", [A])]))
        for _ in range(1200):
            desk.say(1)
        self.assertEqual((len(desk.so_far().bits), desk.report().cells[0]), (1200, ((), 1200)))

    def test_a_bit_in_a_full_puzzle(self):
        desk = Desk(code([("tries", [F])]))
        for _ in range(29):
            desk.say(1)
            desk.say(1)
        for answer in (1, 0, 1, 0, 0):
            desk.say(answer)
        self.assertEqual((desk.so_far().depth, desk.due()), (30, ("tries", (0,) * 28, "f")))


class TakingBack(Case):
    def test_one_by_one(self):
        made = code([("tries", [A, C, ("guard", [G], [B]), VIEW, ("give", "a")])],
                    [("either", [("push", "s"), ("pop", "r")], [("blank", "a")]), COPY, MAY, F])
        answers = [1, 1, 1, 0, 1, 0, 1, 1, 0, 1, 1, 0, 1, 1, 1, 0, 0, 0]
        desk = Desk(made)
        states = [state(desk)]
        for answer in answers:
            desk.say(answer)
            states.append(state(desk))
        self.assertEqual([told[3] for told in states], [answers[:many] for many in range(len(answers) + 1)])
        for told in states[-2::-1]:
            desk.undo()
            self.assertEqual(state(desk), told)
        self.nothing(desk.undo, desk.undo)
        self.assertEqual(state(desk), states[0])
        for told in states[1:]:
            desk.redo()
            self.assertEqual(state(desk), told)
        self.nothing(desk.redo, desk.redo)
        self.assertEqual(state(desk), states[-1])

    def test_nothing_to_take_back(self):
        desk = Desk(code([MAY, MAY]))
        told = state(desk)
        self.nothing(desk.undo, desk.redo)
        self.assertEqual(state(desk), told)
        desk.say(0)
        self.nothing(desk.redo)
        desk.undo()
        self.nothing(desk.undo)
        desk.redo()
        self.nothing(desk.redo)
        self.assertEqual(desk.answers_given(), [0])

    def test_behind_the_end(self):
        desk = desk_of(code([A, MAY, ("tries", [B, MAY])]), [0, 1, 1])
        self.assertIsNone(desk.due())
        told = state(desk)
        desk.undo()
        self.assertEqual((desk.due(), desk.report().way), (("may", (), "f"), None))
        desk.redo()
        self.assertEqual(state(desk), told)
        self.nothing(desk.redo)
        for _ in range(3):
            desk.undo()
        self.assertEqual(desk.due(), ("may", (), "f"))

    def test_a_new_answer_forgets(self):
        made = code([("either", [A], [B]), ("either", [C], [D]), MAY])
        for new in (0, 1):
            desk = desk_of(made, [1, 1, 0])
            desk.undo()
            desk.undo()
            desk.say(new)
            self.nothing(desk.redo)
            self.assertEqual(desk.answers_given(), [1, new])
            desk.undo()
            desk.redo()
            self.assertEqual(desk.answers_given(), [1, new])
            desk.undo()
            desk.undo()
            self.nothing(desk.undo)
            desk.redo()
            desk.redo()
            self.nothing(desk.redo)
            self.assertEqual((desk.answers_given(), desk.due()), ([1, new], ("may", (), "f")))

    def test_to_and_fro(self):
        desk = desk_of(code([("tries", [C])]), [1, 1, 1])
        for _ in range(5):
            desk.undo()
            self.assertEqual((desk.answers_given(), desk.report().rows[0]), ([1, 1], (((), 1), ((), 2))))
            desk.redo()
            self.assertEqual((desk.answers_given(), desk.report().rows[0]), ([1, 1, 1], (((), 1), ((), 2), ((), 3))))
        desk.undo()
        desk.undo()
        desk.redo()
        desk.undo()
        desk.redo()
        desk.redo()
        self.assertEqual(desk.answers_given(), [1, 1, 1])
        self.nothing(desk.redo)

    def test_the_way_of_the_last_call_comes_back(self):
        made = code([G, MAY, MAY, ("told", [A], [B])], [("either", [FOUND], [])])
        for found, last in [(1, A), (0, B)]:
            desk = desk_of(made, [1, found, 0, 0])
            for many in (1, 2, 3):
                for _ in range(many):
                    desk.undo()
                for _ in range(many):
                    desk.redo()
                self.assertEqual(desk.report().trace[-2], last)
            desk.undo()
            desk.undo()
            desk.say(0)
            desk.say(0)
            self.assertEqual(desk.report().trace[-2], last)

    def test_turns_calls_and_told_come_back(self):
        made = code([("tries", [C, G, ("told", [A], [B])])], [("either", [FOUND], [])])
        desk = desk_of(made, [1, 1, 1, 1, 1, 0])
        for _ in range(3):
            desk.undo()
        self.assertEqual(desk.report().trace[-1], A)
        for answer in (1, 0, 1, 1, 1):
            desk.say(answer)
        report = desk.report()
        self.assertEqual([one.path for one in report.visits], [(), (0,), (2,)])
        self.assertEqual(report.rows[0], (((), 1), ((), 2), ((), 3)))
        self.assertEqual([pair for pair in report.trace if pair in (A, B)], [A, B, A])


class Reports(Case):
    def test_an_open_run(self):
        desk = desk_of(code([A, C, VIEW, COPY, G, B], [("blank", "a"), D, VIEW, F, MAY]), [1])
        report = desk.report()
        self.assertIsInstance(report, Run)
        put, item, theirs = ((), 0), (((), 0),), (((0,), 0),)
        self.assertEqual((report.way, report.cells, report.rows), (None, (None, None), (item, theirs)))
        self.assertEqual(report.trace, (("enter", "f"), A, C, VIEW, COPY, ("enter", "g"), ("blank", "a"), D, VIEW))
        now, then = ((None, None), (item, theirs)), ((put, None), (item, ()))
        self.assertEqual([(one.how, one.path, one.cells, one.rows, one.told_cells, one.told_rows, one.spoiled)
                          for one in report.answers],
                         [("view", (), *now, *then, True), ("copy", (), *then, *then, False), ("view", (0,), *now, *now, False)])
        for visit, path, function, contents in [(report.visits[0], (), "f", ((None, None), ((), ()))),
                                                (report.visits[1], (0,), "g", then)]:
            self.assertEqual((visit.path, visit.function, visit.cells_in, visit.rows_in), (path, function, *contents))
            self.assertEqual((visit.way, visit.cells_out, visit.rows_out, visit.restored), (None, None, None, None))

    def test_open_and_ended_visits(self):
        desk = desk_of(code([A, G, G], [MAY, ("blank", "a"), F]), [1, 0, 0, 1])
        report = desk.report()
        self.assertEqual([(one.path, one.way, one.restored) for one in report.visits],
                         [((), None, None), ((0,), "none", False), ((1,), None, None)])
        self.assertEqual([(one.cells_out, one.rows_out) for one in report.visits],
                         [(None, None), ((None, None), ((), ())), (None, None)])
        self.assertIs(report.visits[2].restored, None)

    def test_the_trace_ends_with_the_last_thing_done(self):
        desk = Desk(code([A, G, C, F], [MAY, ("tries", [D])]))
        for answer, last in [(1, ("enter", "g")), (0, ("enter", "g")), (1, D), (1, D), (0, C), (0, ("leave", "none"))]:
            desk.say(answer)
            self.assertEqual(desk.report().trace[-1], last)
        desk = desk_of(code([G, MAY]), [0])
        self.assertEqual(desk.report().trace[-1], ("miss", "g"))

    def test_an_ended_run(self):
        made = code([A, G, VIEW, C], [COPY, ("tries", [B]), FOUND])
        desk = desk_of(made, [1, 1, 1, 0])
        self.assertEqual(told_of(desk.report()), told_of(run(made, Puzzle([], [Puzzle([1, 1])]))))
        self.assertEqual(desk.report().way, "none")
        self.assertEqual([one.restored for one in desk.report().visits], [False, False])

    def test_reports_that_are_changed(self):
        desk = desk_of(code([A, VIEW, G, COPY, MAY], [C]), [1])
        told = state(desk)
        report = desk.report()
        for _ in range(2):
            report.answers[0].cells = report.answers[0].told_rows = "x"
            report.visits[0].way = report.visits[1].cells_in = "x"
            report.visits[1].way = "fault"
            report.answers.clear()
            report.visits.pop()
            report.way = report.trace = report.cells = report.rows = "x"
            self.assertEqual(state(desk), told)
            report = desk.report()
        desk.undo()
        desk.redo()
        self.assertEqual(state(desk), told)

    def test_reports_stay_as_they_are(self):
        desk = Desk(code([A, VIEW, G, ("tries", [C, COPY])], [B, MAY]))
        reports = []
        for answer in (1, 0, 1, 1, 0):
            report = desk.report()
            reports.append((report, told_of(report)))
            desk.say(answer)
        for _ in range(5):
            desk.undo()
        for report, told in reports:
            self.assertEqual(told_of(report), told)
        self.assertIsNot(desk.report(), desk.report())
        self.assertIsNot(desk.report().visits, desk.report().visits)
        self.assertIsNot(desk.report().visits[0], desk.report().visits[0])
        self.assertIsNot(desk.report().answers, desk.report().answers)
        self.assertIsNot(desk.report().answers[0], desk.report().answers[0])

    def test_so_far(self):
        made = code([("either", [], []), G, G, F], [("tries", [G])])
        desk = Desk(made)
        for answer, spelling in [(1, "1"), (0, "1"), (1, "1(-,.)"), (1, "1(-,1)"), (0, "1(-,1)"), (1, "1(-,11)"),
                                 (1, "1(-,11(-,.))"), (0, "1(-,11(-,.))"), (0, "1(-,11(-,.))"), (1, "1(-,11(-,.),.)"),
                                 (0, "1(-,11(-,.),.)"), (0, "1(-,11(-,.),.)"), (1, "1(-,11(-,.),.(-,.))")]:
            desk.say(answer)
            self.assertEqual(desk.so_far().spelling, spelling)
            self.assertTrue(desk.so_far() == desk.so_far())
            self.assertIsInstance(desk.so_far(), Puzzle)
        self.assertEqual(Desk(made).so_far().spelling, ".")
        self.assertEqual(desk_of(code([("either", [], []), MAY, ("tries", [])]), [0, 0, 1, 1, 0]).so_far().spelling, "0011")

    def test_answers_given(self):
        desk = desk_of(code([("tries", [G])], [MAY]), [1, 1, 0, 1, 0, 1])
        self.assertEqual(desk.answers_given(), [1, 1, 0, 1, 0, 1])
        answers = desk.answers_given()
        answers.append(7)
        answers[0] = 5
        self.assertEqual(desk.answers_given(), [1, 1, 0, 1, 0, 1])
        kept = desk.answers_given()
        desk.undo()
        self.assertEqual((desk.answers_given(), kept), ([1, 1, 0, 1, 0], [1, 1, 0, 1, 0, 1]))
        desk.answers_given().clear()
        desk.undo()
        self.assertEqual(desk.answers_given(), [1, 1, 0, 1])
        self.assertIs(type(desk.answers_given()), list)


class LeftOpen(Case):
    def test_each_thing(self):
        for body, names in [([], ()), ([A], ("a",)), ([B], ("b",)), ([C], ("r",)), ([D], ("s",)), ([D, C, B, A], ("a", "b", "r", "s")),
                            ([A, ("give", "a")], ()), ([C, D, ("pop", "r")], ("s",)), ([B, ("blank", "b"), C], ("r",))]:
            self.assertEqual(Desk(code([*body, MAY])).left_open(), [((), "f", names)])

    def test_the_order_of_the_code(self):
        made = Code(["z", "a"], ["y", "b"], [Function("f", [("push", "b"), ("push", "y"), ("put", "a"), ("put", "z"), MAY])], "f")
        self.assertEqual(Desk(made).left_open(), [((), "f", ("z", "a", "y", "b"))])

    def test_several_open_visits(self):
        desk = desk_of(code([A, C, G], [("blank", "a"), D, F]), [1])
        self.assertEqual(desk.left_open(), [((), "f", ("r", "s")), ((0,), "g", ("a", "s"))])
        desk.say(1)
        self.assertEqual(desk.left_open(), [((), "f", ("a", "r", "s")), ((0,), "g", ("a", "r", "s")), ((0, 0), "f", ("a", "r"))])
        desk.say(0)
        self.assertEqual(desk.due(), None)
        self.assertEqual(desk.left_open(), [])

    def test_it_is_about_what_is_held_not_about_what_was_done(self):
        made = code([C, A, G], [("pop", "r"), ("blank", "a"), MAY, ("give", "a"), C, MAY, ("cut", "r"), MAY, ("pop", "r"), MAY])
        desk = desk_of(made, [1])
        for names, own in [(("a", "r"), ()), (("r",), ("a", "r")), (("r",), ("a", "r")), (("r",), ("a",))]:
            self.assertEqual(desk.left_open(), [((), "f", own), ((0,), "g", names)])
            desk.say(0)
        self.assertEqual(desk.left_open(), [])

    def test_ended_visits_are_left_out(self):
        desk = desk_of(code([A, G, G, MAY], [B, MAY]), [1, 0, 1])
        self.assertEqual(desk.left_open(), [((), "f", ("a", "b")), ((1,), "g", ("b",))])
        desk.say(0)
        self.assertEqual(desk.left_open(), [((), "f", ("a", "b"))])
        desk.undo()
        desk.undo()
        desk.undo()
        self.assertEqual(desk.left_open(), [((), "f", ("a", "b")), ((0,), "g", ("b",))])

    def test_lists_that_are_changed(self):
        desk = Desk(code([A, MAY]))
        left = desk.left_open()
        left.append("x")
        left[0] = None
        self.assertEqual(desk.left_open(), [((), "f", ("a",))])
        desk.left_open().clear()
        self.assertEqual(desk.left_open(), [((), "f", ("a",))])
        desk.say(0)
        self.assertIs(type(desk.left_open()), list)


class Random(Case):
    def test_against_executions_with_the_same_answers(self):
        dice = random.Random(31)
        for _ in range(250):
            made = random_code(dice)
            desk, given, back = Desk(made), [], []
            for _ in range(30):
                done, due = answered(made, given)
                self.compare(made, desk, given, done, due)
                choice = dice.randrange(10)
                if choice < 6 and due is not None:
                    given.append(dice.randrange(2))
                    desk.say(given[-1])
                    back = []
                elif choice < 8 and given:
                    desk.undo()
                    back.append(given.pop())
                elif back:
                    desk.redo()
                    given.append(back.pop())
            if not given:
                self.nothing(desk.undo)
            if not back:
                self.nothing(desk.redo)

    def compare(self, made, desk, given, done, due):
        self.assertEqual(desk.due(), due)
        self.assertEqual(told_of(desk.report()), done.told(), (made.functions[0].body, made.functions[1].body, given))
        self.assertEqual(desk.answers_given(), given)
        left = []
        for me in done.under_way:
            names = [name for name in done.cells if done.cells[name] != me.cells[name]]
            names += [name for name in done.rows if done.rows[name] != me.rows[name]]
            left.append((me.path, me.function, tuple(names)))
        self.assertEqual(desk.left_open(), left)
        so_far = desk.so_far()
        self.assertEqual(so_far.paths(), sorted(done.readings))
        for path, reading in done.readings.items():
            self.assertEqual(so_far[path], Puzzle(reading, so_far[path].children))
        if due is None:
            self.ended(desk)
            self.assertEqual(told_of(run(made, so_far)), done.told())


class Interface(Case):
    def test_examples(self):
        search = Function("search", [("tries", [("push", "path"), ("deeper", "search"), ("pop", "path")]),
                                     ("answer", "view")])
        walk = Code([], ["path"], [search], "search")
        desk = Desk(walk)
        self.assertEqual(desk.due(), ("tries", (), "search"))
        desk.say(1)
        self.assertEqual([desk.due(), desk.left_open()], [("deeper", (), "search"), [((), "search", ("path",))]])
        desk.say(1)
        self.assertEqual([desk.due(), desk.so_far().spelling], [("tries", (0,), "search"), "1(.)"])

    def test_names_and_places(self):
        self.assertEqual(Desk.__module__, "tryback.desks")
        self.assertTrue(inspect.isclass(desks.Desk))
        for name in ("due", "say", "undo", "redo", "report", "so_far", "answers_given", "left_open"):
            self.assertIn(name, vars(Desk))
        desk = Desk(code=code([MAY]))
        desk.say(answer=1)
        self.assertEqual(desk.report().way, "fault")


if __name__ == "__main__":
    unittest.main()
