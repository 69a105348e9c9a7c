"""Texts of codes: points 10 and 11 and the heading tryback/texts.py."""

import random
import re
import unittest

from tryback.codes import Code, Function
from tryback.errors import BadCode, BadText, TooGreat
from tryback.texts import read_code, written

MAY = ("may",)
HEAD = "cells: a\nrows: r\nstart: f\n"

# Each statement of f with the lines of its text, without the margin of the body.
LINES = [
    (("put", "a"), ["put a"]),
    (("blank", "a"), ["blank a"]),
    (("give", "a"), ["give a"]),
    (("push", "r"), ["push r"]),
    (("pop", "r"), ["pop r"]),
    (("cut", "r"), ["cut r"]),
    (("answer", "copy"), ["answer copy"]),
    (("answer", "view"), ["answer view"]),
    (("deeper", "f"), ["deeper f"]),
    (("stop", "found"), ["stop found"]),
    (("stop", "none"), ["stop none"]),
    (("fault",), ["fault"]),
    (("may",), ["may"]),
    (("tries", [("again",)]), ["tries", "  again"]),
    (("tries", [("out",)]), ["tries", "  out"]),
    (("either", [MAY], [("fault",)]), ["either", "  may", "or", "  fault"]),
    (("tries", [MAY]), ["tries", "  may"]),
    (("told", [MAY], [("fault",)]), ["told", "  may", "else", "  fault"]),
    (("look", "a", [MAY], [("fault",)]), ["look a", "  may", "else", "  fault"]),
    (("guard", [MAY], [("fault",)]), ["guard", "  may", "rescue", "  fault"]),
    (("lastly", [MAY], [("put", "a")]), ["do", "  may", "lastly", "  put a"]),
    (("either", [], []), ["either", "or"]),
    (("tries", []), ["tries"]),
    (("told", [], []), ["told", "else"]),
    (("look", "a", [], []), ["look a", "else"]),
    (("guard", [], []), ["guard", "rescue"]),
    (("lastly", [], []), ["do", "lastly"]),
    (("guard", [], [MAY, MAY]), ["guard", "rescue", "  may", "  may"]),
    (("either", [MAY, MAY], []), ["either", "  may", "  may", "or"]),
]

SIMPLE_LINE = re.compile("(put|blank|give|push|pop|cut|deeper) [a-z]{1,12}|answer (copy|view)|stop (found|none)"
                         "|fault|may|again|out")
SECOND = {"either": "or", "tries": None, "told": "else", "guard": "rescue", "do": "lastly"}


def second_word(line):
    """The second word of the block that this line begins; None for tries; "" if it begins no block."""
    if re.fullmatch("look [a-z]{1,12}", line):
        return "else"
    return SECOND.get(line, "")


def first_wrong_line(text):
    """The number of the first wrong line, by a list of open blocks; 0 if there is none."""
    lines = text.split("\n")
    names = "( [a-z]{1,12})"
    for number, form in enumerate([f"cells:{names}*", f"rows:{names}*", f"start:{names}"], 1):
        if len(lines) < number or not re.fullmatch(form, lines[number - 1]):
            return number
    waiting = None
    for number, line in enumerate(lines[3:], 4):
        waiting = after(line, waiting)
        if waiting is None:
            return number
    return len(lines) + 1 if waiting and any(waiting) else 0


def after(line, waiting):
    """The second words for which the open blocks wait behind this line; None if the line is wrong."""
    if re.fullmatch("[a-z]{1,12}:", line):
        return None if waiting and any(waiting) else []
    words = line.lstrip(" ")
    depth, odd = divmod(len(line) - len(words), 2)
    if waiting is None or odd or not 1 <= depth <= len(waiting) + 1 or depth > 4:
        return None
    if any(waiting[depth:]):
        return None
    own, kept = waiting[depth - 1:depth], waiting[:depth - 1]
    if own and own[0]:
        return kept + [None] if words == own[0] else None
    if SIMPLE_LINE.fullmatch(words):
        return kept
    return None if second_word(words) == "" else kept + [second_word(words)]


def body_text(lines):
    return HEAD + "f:\n" + "\n".join("  " + line for line in lines)


def random_part(dice, depth, room):
    part = []
    for _ in range(dice.randrange(4)):
        word = dice.choice(["put", "push", "answer", "deeper", "stop", "may", "either", "tries", "told", "look",
                            "guard", "lastly"])
        if len(room) == 14:
            break
        room.append(word)
        names = {"put": "a", "push": "r", "answer": "view", "deeper": "g", "stop": "found"}
        if word in names:
            part.append((word, names[word]))
        elif word == "may" or depth == 3:
            part.append(MAY)
        elif word == "tries":
            part.append((word, random_part(dice, depth + 1, room)))
        elif word == "lastly":
            part.append((word, random_part(dice, depth + 1, room), []))
        else:
            parts = (random_part(dice, depth + 1, room), random_part(dice, depth + 1, room))
            part.append(("look", "a", *parts) if word == "look" else (word, *parts))
    return part


def random_codes(many):
    dice = random.Random(7)
    for _ in range(many):
        functions = [Function("f", random_part(dice, 0, [])), Function("g", random_part(dice, 0, []))]
        yield Code(["a"], ["r"], functions, "g")


class Case(unittest.TestCase):
    def wrong(self, text, line):
        self.assertEqual(first_wrong_line(text), line, text)
        with self.assertRaises(BadText, msg=text) as told:
            read_code(text)
        self.assertEqual(told.exception.line, line, text)

    def bad_code(self, text, function, number):
        with self.assertRaises(BadCode) as told:
            read_code(text)
        self.assertEqual((told.exception.function, told.exception.number), (function, number))

    def great(self, text):
        with self.assertRaises(TooGreat):
            read_code(text)

    def agrees(self, text):
        """The program refuses the line that the list of open blocks refuses, or none."""
        line = first_wrong_line(text)
        if line:
            self.wrong(text, line)
            return
        try:
            self.assertEqual(written(read_code(text)), text)
        except (BadCode, TooGreat):
            pass


class Writing(Case):
    def test_each_statement(self):
        for statement, lines in LINES:
            self.assertEqual(written(Code(["a"], ["r"], [Function("f", [statement])], "f")), body_text(lines))
        for number, (statement, lines) in enumerate(LINES):
            other, more = LINES[number - 1]
            made = Code(["a"], ["r"], [Function("f", [statement, other])], "f")
            self.assertEqual(written(made), body_text(lines + more))

    def test_statements_inside_blocks(self):
        for statement, lines in LINES:
            inside = ["  " + line for line in lines]
            made = Code(["a"], ["r"], [Function("f", [("either", [statement], [statement])])], "f")
            self.assertEqual(written(made), body_text(["either", *inside, "or", *inside]))
            made = Code(["a"], ["r"], [Function("f", [("tries", [("lastly", [statement], [("cut", "r")])]), MAY])], "f")
            self.assertEqual(written(made), body_text(
                ["tries", "  do"] + ["    " + line for line in lines] + ["  lastly", "    cut r", "may"]))

    def test_headings(self):
        f = Function("f", [])
        self.assertEqual(written(Code([], [], [f], "f")), "cells:\nrows:\nstart: f\nf:")
        self.assertEqual(written(Code(["b", "a", "c"], ["s", "r"], [f], "f")), "cells: b a c\nrows: s r\nstart: f\nf:")
        self.assertEqual(written(Code(["a"], [], [f], "f")), "cells: a\nrows:\nstart: f\nf:")
        self.assertEqual(written(Code([], ["a"], [f], "f")), "cells:\nrows: a\nstart: f\nf:")

    def test_functions(self):
        made = Code([], [], [Function("g", []), Function("cells", [MAY]), Function("f", [])], "f")
        self.assertEqual(written(made), "cells:\nrows:\nstart: f\ng:\ncells:\n  may\nf:")


class ReadingBack(Case):
    def test_each_statement(self):
        for statement, lines in LINES:
            made = Code(["a"], ["r"], [Function("f", [statement])], "f")
            self.assertEqual(read_code(body_text(lines)), made)
            self.assertEqual(read_code(written(made)), made)

    def test_deepest_blocks(self):
        for statement, lines in LINES[:13]:
            made = Code(["a"], ["r"], [Function("f", [("guard", [("tries", [("told", [statement], [])])], [])])], "f")
            text = body_text(["guard", "  tries", "    told", "      " + lines[0], "    else", "rescue"])
            self.assertEqual([written(made), read_code(text)], [text, made])

    def test_random_codes(self):
        for made in random_codes(300):
            self.assertEqual(read_code(written(made)), made)
            self.assertEqual(first_wrong_line(written(made)), 0)

    def test_parts_are_tuples(self):
        made = read_code(body_text(["look a", "  tries", "else", "  may"]))
        self.assertEqual(made.functions[0].body, (("look", "a", (("tries", ()),), (MAY,)),))
        self.assertEqual([made.cells, made.rows, made.start], [("a",), ("r",), "f"])

    def test_names_like_words(self):
        text = "cells: put copy\nrows: tries or\nstart: cells\ncells:\n  put put\n  look copy\n  else\nrows:\n  push or"
        made = read_code(text)
        self.assertEqual([made.start, made.named("rows").body, made.cells],
                         ["cells", (("push", "or"),), ("put", "copy")])


class Headings(Case):
    def test_cut_off(self):
        self.wrong("", 1)
        self.wrong("cells:", 2)
        self.wrong("cells:\n", 2)
        self.wrong("cells:\nrows:", 3)
        self.wrong("cells:\nrows:\n", 3)
        self.wrong("cells:\nrows:\nstart:", 3)
        self.wrong("cells:\nrows:\nstart: f\n", 4)
        self.wrong("cells:\nrows:\nstart: f\nf:\n", 5)

    def test_first_line(self):
        for line in ["cell:", "cells", "cells :", " cells:", "cells: ", "cells:  a", "cells:a", "cells: a ", "cells: A",
                     "cells: a  b", "cells: abcdefghijklm", "cells:\ta", "cells: a1", "Cells: a", "rows: a", "cells: a,b",
                     "cells: \u00e9", "cells: a\r", "\ufeffcells:"]:
            self.wrong(line, 1)
            self.wrong(line + "\nrows:\nstart: f\nf:", 1)

    def test_second_line(self):
        for line in ["row:", "rows", "", "rows: ", "rows:  a", "rows: A", "cells:", "start: f", " rows:"]:
            self.wrong("cells:\n" + line + "\nstart: f\nf:", 2)

    def test_third_line(self):
        for line in ["start:", "start: ", "start: f g", "start: f f", "start", "start:f", "start:  f", "start: f ",
                     "start: F", "starts: f", "start: abcdefghijklm", "f:", "start: g:"]:
            self.wrong("cells:\nrows:\n" + line, 3)
            self.wrong("cells:\nrows:\n" + line + "\nf:", 3)

    def test_function_lines(self):
        for line in ["f", ":", "F:", "f: ", "f:a", "f: a", "f::", " f:", "  f:", "abcdefghijklm:", "", "f g:", "  may",
                     "may", "f:\r"]:
            self.wrong("cells:\nrows:\nstart: f\n" + line, 4)
            self.wrong("cells:\nrows:\nstart: f\nf:\ng:\n  may\n" + line.replace("  may", "    may"), 7)


class StatementLines(Case):
    def test_wrong_lines(self):
        for line in ["put", "put ", "put  a", "put A", "put a ", "put a b", "put abcdefghijklm", "puts a", "Put a", "",
                     "put\ta", "may a", "may ", "fault a", "answer", "answer a", "answer copy view", "answer Copy",
                     "answer found", "stop", "stop view", "stop a", "stop fault", "stop found none", "deeper",
                     "deeper f g", "deeper f:", "tries a", "either a", "look", "look a b", "look A", "guard a", "do a",
                     "lastly", "or", "else", "rescue", "put a:", "again a", "out ", "a", "f:", "cell a", "part", "put 1",
                     "may\r", "may\x0b", "lastly a", "told a", "pop", "push R", "cut -", "give", "blank"]:
            self.wrong(body_text([line]), 5)
            self.wrong(body_text(["may", "tries", "  may", line, "may"]), 8)
            self.wrong(body_text(["tries", "  " + line]), 6)
            if line not in ("or", "else"):
                self.wrong(body_text(["either", "  may", line]), 7)
            self.wrong(body_text(["either", "  " + line]), 6)
            self.wrong(body_text(["told", "  may", "else", "  " + line]), 8)

    def test_margins(self):
        self.wrong(HEAD + "f:\n may", 5)
        self.wrong(HEAD + "f:\n   may", 5)
        self.wrong(HEAD + "f:\n    may", 5)
        self.wrong(HEAD + "f:\n  may\n    may", 6)
        self.wrong(HEAD + "f:\n  tries\n      may", 6)
        self.wrong(HEAD + "f:\n  tries\n   may", 6)
        self.wrong(HEAD + "f:\n  tries\n    tries\n      may\n     may", 8)
        self.wrong(HEAD + "f:\n  tries\n    may\n      may", 7)
        self.wrong(HEAD + "f:\n\tmay", 5)
        self.wrong(HEAD + "f:\nabmay", 5)
        self.wrong(HEAD + "f:\n  tries\n  abmay", 6)
        self.wrong(HEAD + "f:\n  tries\nab  may", 6)
        self.wrong(HEAD + "f:\n  may\n  \n  may", 6)

    def test_second_words(self):
        self.wrong(body_text(["either"]), 6)
        self.wrong(body_text(["either", "  may"]), 7)
        self.wrong(body_text(["either", "may"]), 6)
        self.wrong(body_text(["either", "else"]), 6)
        self.wrong(body_text(["told", "or"]), 6)
        self.wrong(body_text(["look a", "or"]), 6)
        self.wrong(body_text(["look a", "else a"]), 6)
        self.wrong(body_text(["guard", "else"]), 6)
        self.wrong(body_text(["do", "do"]), 6)
        self.wrong(body_text(["lastly", "lastly"]), 5)
        self.wrong(body_text(["either", "  or"]), 6)
        self.wrong(body_text(["either", "or", "or"]), 7)
        self.wrong(body_text(["tries", "or"]), 6)
        self.wrong(body_text(["told", "else", "else"]), 7)
        self.wrong(body_text(["do", "  may", "rescue"]), 7)
        self.wrong(body_text(["either", "  told", "  may", "or"]), 7)
        self.wrong(body_text(["either", "  told", "or"]), 7)
        self.wrong(body_text(["told", "  look a", "    may", "else"]), 8)
        self.wrong(HEAD + "f:\n  either\ng:\n  may", 6)
        self.wrong(HEAD + "f:\n  tries\n    guard\n      may\ng:", 8)

    def test_more_than_eight_blanks(self):
        deep = ["tries", "  tries", "    tries"]
        for line in ["tries", "either", "do", "look a"]:
            for more in ["may", "tries", "or", "else"]:
                self.wrong(body_text(deep + ["      " + line, "        " + more]), 9)
        self.great(body_text(deep + ["      tries", "      may", "may"]))
        self.great(body_text(deep + ["      either", "      or"]))
        self.wrong(body_text(deep + ["      either", "      or", "        may"]), 10)
        self.wrong(body_text(deep + ["      either", "      may"]), 9)
        self.wrong(body_text(deep + ["      either"]), 9)
        self.wrong(HEAD + "f:\n" + " " * 100 + "may", 5)

    def test_faults_of_texts_come_before_faults_of_codes(self):
        self.wrong(body_text(["put b", "no"]), 6)
        self.wrong("cells: a a b c d\nrows: a\nstart: no\nf:\n  no", 5)
        self.wrong(body_text(["may"] * 20 + ["no"]), 25)
        self.wrong(body_text(["no", "no"]), 5)


class RefusedCodes(Case):
    def test_names(self):
        for text in ["cells:\nrows:\nstart: f", "cells: a a\nrows:\nstart: f\nf:", "cells: a\nrows: a\nstart: f\nf:",
                     "cells:\nrows:\nstart: f\nf:\nf:", "cells:\nrows:\nstart: g\nf:", "cells: a\nrows:\nstart: a\nf:"]:
            self.assertEqual(first_wrong_line(text), 0)
            self.bad_code(text, None, None)

    def test_statements(self):
        for lines, number in [(["put b"], 0), (["put r"], 0), (["push a"], 0), (["deeper g"], 0), (["look r", "else"], 0),
                              (["again"], 0), (["may", "out"], 1), (["tries", "  again", "out"], 2),
                              (["do", "lastly", "  may"], 1)]:
            self.assertEqual(first_wrong_line(body_text(lines)), 0)
            self.bad_code(body_text(lines), "f", number)
        self.bad_code(body_text(["do", "  may", "lastly", "  tries", "    may"]), "f", 2)
        self.bad_code(body_text(["may"]) + "\ng:\n  may\n  put f", "g", 1)

    def test_bounds(self):
        self.great("cells: a b c d\nrows:\nstart: f\nf:")
        self.great("cells:\nrows: a b c\nstart: f\nf:")
        self.great("cells:\nrows:\nstart: f\nf:\ng:\nh:\ni:")
        self.great(body_text(["may"] * 15))
        self.assertEqual(read_code(body_text(["may"] * 14)).functions[0].many, 14)
        self.great("cells: " + " ".join(["a"] * 500) + "\nrows:\nstart: f" + "\nf:" * 500)


class ChangedTexts(Case):
    """Texts of codes with one change each, against the list of open blocks."""

    def texts(self):
        yield from [body_text(lines) for _, lines in LINES]
        yield body_text([line for _, lines in LINES for line in lines])
        yield from [written(made) for made in random_codes(40)]

    def test_lines_dropped_doubled_exchanged(self):
        for text in self.texts():
            lines = text.split("\n")
            for at in range(len(lines)):
                self.agrees("\n".join(lines[:at] + lines[at + 1:]))
                self.agrees("\n".join(lines[:at + 1] + lines[at:]))
                for other in range(at):
                    changed = list(lines)
                    changed[at], changed[other] = lines[other], lines[at]
                    self.agrees("\n".join(changed))

    def test_lines_moved_in_and_out_and_put_in(self):
        new = ["", "  ", "  may", "    may", "      may", "        may", "          may", "  or", "    or", "  else",
               "    else", "  tries", "    either", "f:", "h:", "  lastly", "  do", "  rescue", "start: f"]
        for text in self.texts():
            lines = text.split("\n")
            for at in range(len(lines) + 1):
                for line in new:
                    self.agrees("\n".join(lines[:at] + [line] + lines[at:]))
            for at, line in enumerate(lines):
                for changed in (" " + line, "  " + line, "    " + line, line[1:], line[2:], line[4:], line + " "):
                    self.agrees("\n".join(lines[:at] + [changed] + lines[at + 1:]))

    def test_words_and_blanks_changed(self):
        words = ["a", "put", "may", "copy", "found", "or", "else", "tries", "either", "lastly", "do", "f:", "", "look a"]
        for text in self.texts():
            lines = text.split("\n")
            for at, line in enumerate(lines):
                pieces = line.split(" ")
                for place, piece in enumerate(pieces):
                    for word in words if piece else []:
                        changed = " ".join(pieces[:place] + [word] + pieces[place + 1:])
                        self.agrees("\n".join(lines[:at] + [changed] + lines[at + 1:]))
                    joined = pieces[:place] + ["", piece] + pieces[place + 1:]
                    self.agrees("\n".join(lines[:at] + [" ".join(joined)] + lines[at + 1:]))

    def test_cut_off_anywhere(self):
        for text in self.texts():
            for at in range(len(text) + 1):
                self.agrees(text[:at])
                self.agrees(text[at:])

    def test_a_line_feed_at_the_end(self):
        for text in self.texts():
            self.wrong(text + "\n", text.count("\n") + 2)
            self.wrong("\n" + text, 1)
            self.wrong(text.replace("\n", "\r\n"), 1)

    def test_expected_lines(self):
        text = body_text(["either", "  tries", "    may", "or", "  guard", "  rescue", "    fault", "put a"])
        lines = text.split("\n")
        self.assertEqual(written(read_code(text)), text)
        for at, line in [(4, 5), (5, 6), (7, 11), (8, 9), (9, 11)]:
            self.wrong("\n".join(lines[:at] + lines[at + 1:]), line)
        for end, line in [(0, 1), (1, 2), (2, 3), (5, 6), (6, 7), (7, 8), (9, 10)]:
            self.wrong("\n".join(lines[:end]), line)
        for end in (8, 10, 11, 12):
            read_code("\n".join(lines[:end]))


class Interface(Case):
    def test_examples(self):
        search = Function("search", [("tries", [("push", "path"), ("deeper", "search"), ("pop", "path")]),
                                     ("answer", "view")])
        walk = Code([], ["path"], [search], "search")
        self.assertEqual(written(walk), "cells:\nrows: path\nstart: search\nsearch:\n  tries\n    push path\n"
                                        "    deeper search\n    pop path\n  answer view")
        self.assertTrue(read_code(written(walk)) == walk)

    def test_functions_are_defined_in_the_module(self):
        self.assertEqual([written.__module__, read_code.__module__], ["tryback.texts"] * 2)
        self.assertEqual(read_code(text=written(code=read_code(HEAD + "f:"))), read_code(HEAD + "f:"))


if __name__ == "__main__":
    unittest.main()
