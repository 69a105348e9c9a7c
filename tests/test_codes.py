"""Codes: points 2 to 9 and the heading tryback/codes.py."""

import unittest

from tryback.codes import Code, Function
from tryback.errors import BadCode, NoSuch, TooGreat

SIMPLE = [
    ("put", "a"), ("blank", "a"), ("give", "a"),
    ("push", "r"), ("pop", "r"), ("cut", "r"),
    ("answer", "copy"), ("answer", "view"), ("deeper", "f"), ("deeper", "g"),
    ("stop", "found"), ("stop", "none"), ("fault",), ("may",),
]
CHANGES = SIMPLE[:6]
ROUNDS = [("again",), ("out",)]
MAY = ("may",)


def block(word, first=(), second=()):
    """A block with this word, over the cell a."""
    return {"tries": ("tries", first), "look": ("look", "a", first, second)}.get(word, (word, first, second))


BLOCKS = ["either", "tries", "told", "look", "guard", "lastly"]
TWO_PARTS = ["either", "told", "look", "guard", "lastly"]


def code(body, other=()):
    """A code with one cell, one row and the functions f and g."""
    return Code(["a"], ["r"], [Function("f", body), Function("g", other)], "f")


class Case(unittest.TestCase):
    def bad(self, function, number, make, *given):
        with self.assertRaises(BadCode) as told:
            make(*given)
        self.assertEqual((told.exception.function, told.exception.number), (function, number))

    def great(self, make, *given):
        with self.assertRaises(TooGreat):
            make(*given)


class Copies(Case):
    def test_lists_changed_afterwards_change_nothing(self):
        cells, rows, inner = ["a", "b"], ["r"], [("put", "a")]
        rest = [("pop", "r")]
        body = [("tries", inner), ("either", rest, inner)]
        function = Function("f", body)
        functions = [function]
        made = Code(cells, rows, functions, "f")
        same = Code(["a", "b"], ["r"], [Function("f", [("tries", [("put", "a")]),
                                                       ("either", [("pop", "r")], [("put", "a")])])], "f")
        for given in (cells, rows, inner, rest, body, functions):
            given.clear()
            given.append("other")
        self.assertEqual(made, same)
        self.assertEqual([made.cells, made.rows, len(made.functions)], [("a", "b"), ("r",), 1])
        self.assertEqual([function.body, function.many],
                         [(("tries", (("put", "a"),)), ("either", (("pop", "r"),), (("put", "a"),))), 5])

    def test_each_kind_of_block_copies_its_parts(self):
        for word in BLOCKS:
            first, second = [("put", "a")], [("give", "a")]
            function = Function("f", [block("guard", [block(word, first, second)], [])])
            first.append(MAY)
            second.append(MAY)
            self.assertEqual(function.body, (("guard", (block(word, (("put", "a"),), (("give", "a"),)),), ()),))


class Names(Case):
    def test_lengths_and_letters(self):
        for name in ("a", "z", "m" * 12, "abcdefghijkl", "mnopqrstuvwx", "yz"):
            self.assertEqual(Code([name], [], [Function("xx", [])], "xx").cells, (name,))
            self.assertEqual(Code([], [name], [Function("xx", [])], "xx").rows, (name,))
            self.assertEqual(Code([], [], [Function(name, [])], name).start, name)

    def test_malformed(self):
        wrong = ["", "a" * 13, "A", "aB", "a1", "1", "a b", " a", "a ", "a_", "_", "a-", "a\n", "\n", "a:", "\u00e9",
                 "a\u00df", "\u0430", "\u00aa", "\u017f", "\uff41", None, 3, True, ("a",)]
        for name in wrong:
            self.bad(None, None, Code, [name], [], [Function("f", [])], "f")
            self.bad(None, None, Code, [], [name], [Function("f", [])], "f")
            self.bad(None, None, Code, [], [], [Function(name, [])], name)
            self.bad(None, None, Code, ["b", name], ["c"], [Function("f", [])], "f")
            self.bad(None, None, Code, [], ["b", name], [Function("f", [])], "f")
            self.bad(None, None, Code, [], [], [Function("f", []), Function(name, [])], "f")

    def test_repeated(self):
        f, g = Function("f", []), Function("g", [])
        for cells, rows, functions in [
            (["a", "a"], [], [f]), (["a", "b", "a"], [], [f]), ([], ["r", "r"], [f]), ([], [], [f, f]),
            ([], [], [f, g, Function("f", [MAY])]), (["a"], ["a"], [f]), (["a", "b"], ["r", "b"], [f]),
            (["f"], [], [f]), ([], ["f"], [f]), ([], ["r", "g"], [f, g]), (["b", "g"], [], [f, g]),
        ]:
            self.bad(None, None, Code, cells, rows, functions, "f")

    def test_no_function(self):
        self.bad(None, None, Code, [], [], [], "f")
        self.bad(None, None, Code, ["a"], ["r"], (), "a")

    def test_start_is_no_function(self):
        for start in ("g", "a", "r", "", "F", "ff", None):
            self.bad(None, None, Code, ["a"], ["r"], [Function("f", [])], start)
        self.assertEqual(Code([], [], [Function("f", []), Function("g", [])], "g").start, "g")


class Bounds(Case):
    def test_greatest_numbers(self):
        functions = [Function(name, []) for name in ("f", "g", "h")]
        made = Code(["a", "b", "c"], ["r", "s"], functions, "h")
        self.assertEqual([made.cells, made.rows, made.functions], [("a", "b", "c"), ("r", "s"), tuple(functions)])

    def test_one_beyond(self):
        functions = [Function(name, []) for name in ("f", "g", "h", "i")]
        self.great(Code, ["a", "b", "c", "d"], [], functions[:1], "f")
        self.great(Code, [], ["r", "s", "t"], functions[:1], "f")
        self.great(Code, [], [], functions, "f")

    def test_numbers_come_before_names(self):
        self.great(Code, ["A", "A", "A", "A"], [], [], "")
        self.great(Code, ["A"], ["", "", ""], [], "")
        self.great(Code, ["A"], [""], [Function("", [("no",)])] * 4, "")
        self.great(Code, ["a"] * 4, ["a"] * 3, [Function("a", [])] * 4, "a")

    def test_names_come_before_statements(self):
        wrong = Function("f", [("no",)])
        long = Function("f", [MAY] * 15)
        for function in (wrong, long):
            self.bad(None, None, Code, ["A"], [], [function], "f")
            self.bad(None, None, Code, [], ["f"], [function], "f")
            self.bad(None, None, Code, [], [], [function, Function("F", [])], "f")
            self.bad(None, None, Code, [], [], [function], "g")

    def test_fourteen_statements_and_fifteen(self):
        self.assertEqual(code([MAY] * 14).functions[0].many, 14)
        self.great(code, [MAY] * 15)
        self.great(code, [], [MAY] * 15)
        for word in BLOCKS:
            inner = [("put", "a")] * 6
            many = 1 + 6 * (1 if word == "tries" else 2)
            fill = [MAY] * (14 - many)
            self.assertEqual(code([block(word, inner, inner)] + fill).functions[0].many, 14)
            self.assertEqual(code(fill + [block(word, inner, inner)]).functions[0].many, 14)
            self.great(code, [block(word, inner, inner), MAY] + fill)
            self.great(code, fill + [MAY, block(word, inner, inner)])
            self.great(code, [block(word, [("put", "a")] * 14, [])])
            if word != "tries":
                self.great(code, [block(word, [], [("put", "a")] * 14)])

    def test_blocks_inside_two_others_and_inside_three(self):
        for outer in BLOCKS:
            for middle in BLOCKS:
                for inner in BLOCKS:
                    deep = block(outer, [MAY, block(middle, [block(inner, [MAY], [])], [])], [])
                    self.assertEqual(code([deep]).functions[0].many, 5)
                    for most in BLOCKS:
                        deeper = block(outer, [block(middle, [block(inner, [block(most)])])])
                        self.great(code, [deeper])

    def test_depth_in_second_parts(self):
        for word in ("either", "told", "look", "guard"):
            deep = block(word, [], [block(word, [], [block(word, [], [MAY])])])
            self.assertEqual(code([deep]).functions[0].many, 4)
            self.great(code, [block(word, [], [deep])])
            # Blocks beside each other are not inside each other.
            self.assertEqual(code([deep, deep]).functions[0].many, 8)


class Statements(Case):
    def test_all_simple_statements(self):
        for statement in SIMPLE:
            self.assertEqual(code([statement]).functions[0].body, (statement,))
            self.assertEqual(code((statement,)).functions[0].body, (statement,))

    def test_all_blocks_with_lists_and_tuples(self):
        for word in BLOCKS:
            for inner in SIMPLE:
                second = inner if word != "lastly" else ("cut", "r")
                lists = code([block(word, [inner], [second])])
                tuples = code((block(word, (inner,), (second,)),))
                self.assertEqual(lists, tuples)
                self.assertEqual(lists.functions[0].body, (block(word, (inner,), (second,)),))
            self.assertEqual(code([block(word, [], ())]).functions[0].many, 1)

    def test_unknown_words(self):
        for word in ("", "Put", "put ", "or", "do", "else", "rescue", "cell", "part", "none", "found", "try", "a", None):
            for statement in ((word,), (word, "a"), (word, [], []), (word, [])):
                self.bad("f", 1, code, [MAY, statement])
                self.bad("g", 2, code, [], [("tries", [MAY, statement])])
        self.bad("f", 0, code, [()])

    def test_numbers_of_entries(self):
        for statement in SIMPLE + [block(word) for word in BLOCKS]:
            self.bad("f", 0, code, [statement + ("a",)])
            self.bad("f", 0, code, [statement + ((),)])
            self.bad("f", 0, code, [statement + (None,)])
            if len(statement) > 1:
                self.bad("f", 0, code, [statement[:-1]])
                self.bad("f", 0, code, [statement[:1]])
        for statement in ROUNDS:
            self.bad("f", 1, code, [("tries", [statement + ("a",)])])
        self.bad("f", 0, code, [("look", [], [])])
        self.bad("f", 0, code, [("either", [MAY])])

    def test_names_of_no_or_another_kind(self):
        for words, fitting in [(("put", "blank", "give"), ("a",)), (("push", "pop", "cut"), ("r",)),
                               (("deeper",), ("f", "g"))]:
            for word in words:
                for name in ("a", "r", "f", "g", "b", "", "copy", "found", None, 0, []):
                    if name in fitting:
                        code([(word, name)])
                    else:
                        self.bad("f", 1, code, [MAY, (word, name)])
                        self.bad("g", 0, code, [], [(word, name)])
        for name in ("r", "f", "g", "b", "", None, []):
            self.bad("f", 0, code, [("look", name, [], [])])

    def test_words_behind_answer_and_stop(self):
        for name in ("found", "none", "a", "r", "f", "", "Copy", "views", None, []):
            self.bad("f", 1, code, [MAY, ("answer", name)])
        for name in ("copy", "view", "fault", "a", "r", "f", "", "None", "founds", None, []):
            self.bad("f", 1, code, [MAY, ("stop", name)])

    def test_things_may_be_called_like_words(self):
        made = Code(["put", "copy"], ["found"], [Function("stop", [("put", "put"), ("give", "copy"), ("push", "found"),
                                                                   ("deeper", "stop")])], "stop")
        self.assertEqual(made.functions[0].many, 4)

    def test_parts_are_sequences(self):
        for part in ("", "a", None, 0):
            self.bad("f", 0, code, [("tries", part)])
            self.bad("f", 0, code, [("either", part, [])])
            self.bad("f", 0, code, [("either", [], part)])


class Rounds(Case):
    def test_directly_in_tries(self):
        for statement in ROUNDS:
            self.assertEqual(code([("tries", [statement, MAY, statement])]).functions[0].many, 4)

    def test_deeper_in_tries(self):
        for statement in ROUNDS:
            for word in BLOCKS:
                code([("tries", [block(word, [statement], [])])])
                code([("tries", [block(word, [block(word, [statement], [])], [])])])
                if word not in ("tries", "lastly"):
                    code([("tries", [block(word, [], [statement])])])
                    code([("tries", [block(word, [], [block(word, [], [statement])])])])

    def test_blocks_around_the_tries(self):
        for statement in ROUNDS:
            for word in BLOCKS:
                code([block(word, [("tries", [statement])], [])])

    def test_outside(self):
        for statement in ROUNDS:
            self.bad("f", 0, code, [statement])
            self.bad("f", 1, code, [("tries", []), statement])
            self.bad("f", 2, code, [("tries", [MAY]), statement])
            self.bad("g", 3, code, [], [MAY, ("tries", [statement]), statement])
            for word in TWO_PARTS:
                self.bad("f", 1, code, [block(word, [statement], [])])
                self.bad("f", 1, code, [block(word, [], [statement])])
                self.bad("f", 2, code, [block(word, [block(word, [statement], [])], [])])
                self.bad("f", 3, code, [block(word, [("tries", [statement]), statement], [])])
                self.bad("f", 2, code, [block(word, [("tries", [])], [statement])])


class SecondPartOfLastly(Case):
    def test_what_may_stand_there(self):
        self.assertEqual(code([("lastly", [], CHANGES)]).functions[0].many, 7)

    def test_what_may_not(self):
        blocks = [block(word) for word in BLOCKS]
        for statement in SIMPLE[6:] + ROUNDS + blocks:
            self.bad("f", 1, code, [("lastly", [], [statement])])
            self.bad("f", 3, code, [("lastly", [MAY], [("put", "a"), statement])])
            self.bad("f", 2, code, [("tries", [("lastly", [], [statement])])])

    def test_the_first_part_is_free(self):
        for statement in SIMPLE + [block(word) for word in BLOCKS]:
            code([("lastly", [statement], [])])
        code([("lastly", [("lastly", [MAY], [("put", "a")])], [("give", "a")])])
        # What stands behind the block is free, too.
        code([("lastly", [], [("put", "a")]), MAY, block("either", [MAY], [MAY])])

    def test_the_block_itself_is_told(self):
        self.bad("f", 2, code, [("lastly", [MAY], [("tries", [("no",), MAY])])])
        # Inside three blocks, too: a breach comes before the depth.
        self.bad("f", 3, code, [block("either", [block("either", [("lastly", [], [("tries", [])])], [])], [])])


class FirstFault(Case):
    def test_in_one_statement(self):
        for statement in [("no",), ("put", "x"), ("put",), ("again",), ("answer", "no"), ("tries",)]:
            self.great(code, [MAY] * 14 + [statement])
            self.bad("f", 13, code, [MAY] * 13 + [statement])
        self.bad("f", 3, code, [("tries", [("tries", [("tries", [("tries", [], [])])])])])
        self.bad("f", 3, code, [("tries", [("tries", [("tries", [("look", "r", [], [])])])])])
        self.great(code, [("tries", [("tries", [("tries", [MAY] * 11 + [("tries", [])])])])])

    def test_in_two_statements(self):
        self.bad("f", 0, code, [("no",), ("put", "x")])
        self.bad("f", 1, code, [("tries", [("no",)]), ("put", "x")])
        self.bad("f", 1, code, [("either", [("no",)], [("put", "x")])])
        self.bad("f", 2, code, [("either", [MAY], [("put", "x")]), ("no",)])
        self.bad("f", 0, code, [("no",)] + [MAY] * 14)
        self.bad("f", 0, code, [("no",), ("tries", [("tries", [("tries", [("tries", [])])])])])
        self.bad("f", 0, code, [("either", [("no",)])])
        self.bad("f", 3, code, [("lastly", [MAY], [("put", "a"), MAY]), ("out",)])
        self.great(code, [("tries", [("tries", [("tries", [("tries", [])])])]), ("no",)])
        self.great(code, [("tries", [("tries", [("tries", [("tries", [("no",)])])])])])
        self.great(code, [("tries", [("tries", [("tries", [("tries", [MAY] * 20)])])])])
        self.great(code, [MAY] * 14 + [MAY, ("no",)])

    def test_in_two_functions(self):
        self.bad("f", 2, code, [MAY, MAY, ("no",)], [("no",)])
        self.bad("g", 0, code, [MAY] * 14, [("no",)])
        self.great(code, [MAY] * 15, [("no",)])
        self.bad("f", 0, code, [("no",)], [MAY] * 15)
        # The order is that of the functions, wherever the code starts.
        with self.assertRaises(BadCode) as told:
            Code([], [], [Function("g", [("put", "a")]), Function("f", [("no",)])], "f")
        self.assertEqual((told.exception.function, told.exception.number), ("g", 0))

    def test_numbers_follow_the_text(self):
        body = [("either", [MAY, ("tries", [MAY])], [MAY, ("guard", [], [MAY])]), ("look", "a", [MAY], [MAY])]
        self.assertEqual(Function("f", body).many, 10)
        self.bad("f", 10, code, body + [("no",)])
        for number, wrong in [
            (3, [("either", [MAY, ("tries", [("no",)])], [MAY])]),
            (4, [("either", [MAY, ("tries", [MAY]), ("no",)], [MAY])]),
            (4, [("either", [MAY, ("tries", [MAY])], [("no",)])]),
            (5, [("either", [MAY, ("tries", [MAY])], [("guard", [("no",)], [])])]),
            (5, [("either", [MAY, ("tries", [MAY])], [("guard", [], [("no",)])])]),
            (6, [("either", [MAY, ("tries", [MAY])], [("guard", [], [MAY]), ("no",)])]),
        ]:
            self.bad("f", number, code, wrong)


class Kept(Case):
    def test_attributes_of_a_code(self):
        f, g = Function("f", []), Function("g", [MAY])
        made = Code(["b", "a"], ["s", "r"], [g, f], "f")
        self.assertEqual([made.cells, made.rows, made.start], [("b", "a"), ("s", "r"), "f"])
        self.assertIsInstance(made.functions, tuple)
        self.assertEqual([one.name for one in made.functions], ["g", "f"])
        self.assertIsInstance(made.functions[0], Function)

    def test_tuples_are_taken_too(self):
        f = Function("f", ())
        self.assertEqual(Code(("a",), ("r",), (f,), "f"), Code(["a"], ["r"], [f], "f"))

    def test_many(self):
        for body, many in [([], 0), ([MAY], 1), ([("tries", [])], 1), ([("tries", [MAY])], 2),
                           ([("either", [MAY], [MAY, MAY])], 4), ([("look", "a", [MAY], [MAY, MAY])], 4),
                           ([("tries", [("tries", [("tries", [MAY]), MAY])]), MAY], 6), ([MAY] * 40, 40)]:
            self.assertEqual(Function("f", body).many, many)

    def test_named(self):
        f, g = Function("f", [MAY]), Function("g", [MAY])
        made = Code(["a"], ["r"], [f, g], "f")
        self.assertEqual([made.named("f"), made.named("g")], [f, g])
        self.assertEqual(made.named("g").name, "g")
        for name in ("a", "r", "h", "", "F"):
            with self.assertRaises(NoSuch) as told:
                made.named(name)
            self.assertEqual(told.exception.name, name)

    def test_function_checks_nothing(self):
        deep = [("no", "one")]
        for _ in range(20):
            deep = [("either", [MAY], deep)]
        for name, body, many in [("", [("no",), ("put", 3, 4)], 2), ("A b", [("again",)], 1), (None, [MAY] * 99, 99),
                                 ("f", [()], 1), ("f", [("put",)], 1), ("f", deep, 41),
                                 ("f", [("lastly", [], [("tries", [MAY])])], 3)]:
            made = Function(name, body)
            self.assertEqual([made.name, made.many], [name, many])
            self.assertIsInstance(made.body, tuple)
        self.great(code, deep)

    def test_what_is_no_statement(self):
        for wrong in (3, None, "may", (), ({},), ([MAY],), ("put", [MAY]), ("no", [MAY, MAY])):
            self.assertEqual(Function("f", [wrong, MAY]).many, 2)
            self.bad("f", 1, code, [MAY, wrong])

    def test_parts_of_deep_bodies_are_tuples(self):
        deep, same = [MAY], (MAY,)
        for _ in range(20):
            deep, same = [("tries", deep)], (("tries", same),)
        self.assertEqual(Function("f", deep).body, same)


class Equality(Case):
    def test_functions(self):
        body = [("tries", [("put", "a")]), MAY]
        one = Function("f", body)
        self.assertTrue(one == Function("f", (("tries", (("put", "a"),)), MAY)))
        self.assertFalse(one != Function("f", list(body)))
        for other in [Function("g", body), Function("f", body[:1]), Function("f", [("tries", [("put", "b")]), MAY]),
                      Function("f", [MAY, ("tries", [("put", "a")])]), Function("f", [("tries", [("give", "a")]), MAY]),
                      Function("f", [("tries", []), ("put", "a"), MAY])]:
            self.assertFalse(one == other)
            self.assertTrue(one != other)

    def test_codes(self):
        f, g = Function("f", [MAY]), Function("g", [])
        one = Code(["a", "b"], ["r", "s"], [f, g], "f")
        self.assertTrue(one == Code(("a", "b"), ("r", "s"), (Function("f", (MAY,)), Function("g", ())), "f"))
        self.assertFalse(one != Code(["a", "b"], ["r", "s"], [f, g], "f"))
        for other in [Code(["b", "a"], ["r", "s"], [f, g], "f"), Code(["a"], ["r", "s"], [f, g], "f"),
                      Code(["a", "b"], ["s", "r"], [f, g], "f"), Code(["a", "b"], ["r"], [f, g], "f"),
                      Code(["a", "b"], ["r", "s"], [g, f], "f"), Code(["a", "b"], ["r", "s"], [f], "f"),
                      Code(["a", "b"], ["r", "s"], [f, Function("g", [MAY])], "f"),
                      Code(["a", "b"], ["r", "s"], [f, Function("h", [])], "f"),
                      Code(["a", "b"], ["r", "s"], [f, g], "g"), Code(["a", "c"], ["r", "s"], [f, g], "f"),
                      Code(["a", "b"], ["r", "t"], [f, g], "f")]:
            self.assertFalse(one == other)
            self.assertTrue(one != other)

    def test_other_classes(self):
        f = Function("f", [])
        made = Code([], [], [f], "f")

        class Twin:
            def __init__(self):
                self.name, self.body, self.many = "f", (), 0
                self.cells, self.rows, self.functions, self.start = (), (), (f,), "f"

        for other in (None, 0, "f", (), ((), (), (f,), "f"), ("f", ()), Twin()):
            self.assertFalse(f == other)
            self.assertFalse(made == other)
            self.assertTrue(f != other)
            self.assertTrue(made != other)
        self.assertFalse(f == made)
        self.assertFalse(made == f)


class Interface(Case):
    def test_example(self):
        search = Function("search", [("tries", [("push", "path"), ("deeper", "search"), ("pop", "path")]),
                                     ("answer", "view")])
        walk = Code([], ["path"], [search], "search")
        self.assertEqual([search.many, walk.named("search") == search], [5, True])

    def test_methods_are_defined_in_their_classes(self):
        for made, names in [(Function, ("__init__", "__eq__")), (Code, ("__init__", "named", "__eq__"))]:
            self.assertEqual(made.__module__, "tryback.codes")
            for name in names:
                self.assertIn(name, vars(made))

    def test_arguments_by_keyword(self):
        function = Function(name="f", body=[MAY])
        made = Code(cells=["a"], rows=["r"], functions=[function], start="f")
        self.assertEqual(made.named(name="f"), function)


if __name__ == "__main__":
    unittest.main()
