"""The text of a code, written and read line by line."""

from tryback.codes import ENTRIES, FIXED_WORDS, Code, Function, is_name, parts_of
from tryback.errors import BadText

STEP = "  "
WIDEST_MARGIN = 8
# The lines with which the second parts of the blocks begin.
SECOND_WORDS = {"either": "or", "told": "else", "look": "else", "guard": "rescue", "lastly": "lastly"}


def written(code):
    """The text of the code."""
    lines = [heading("cells", code.cells), heading("rows", code.rows), heading("start", [code.start])]
    for function in code.functions:
        lines.append(heading(function.name, []))
        lines.extend(part_lines(function.body, STEP))
    return "\n".join(lines)


def heading(word, names):
    """A line that begins with the word and a colon."""
    return " ".join([f"{word}:", *names])


def part_lines(part, margin):
    """The lines of a body or a part, with this margin of blanks."""
    lines = []
    for statement in part:
        lines.extend(statement_lines(statement, margin))
    return lines


def statement_lines(statement, margin):
    """The lines of a statement."""
    word = statement[0]
    parts = parts_of(statement)
    names = statement[1:len(statement) - len(parts)]
    first = "do" if word == "lastly" else word
    lines = [margin + " ".join([first, *names])]
    for number, part in enumerate(parts):
        if number == 1:
            lines.append(margin + SECOND_WORDS[word])
        lines.extend(part_lines(part, margin + STEP))
    return lines


def read_code(text):
    """The code of a text."""
    lines = text.split("\n")
    cells = read_heading(lines, 0, "cells")
    rows = read_heading(lines, 1, "rows")
    start = read_heading(lines, 2, "start")
    if len(start) != 1:
        raise BadText(3)
    functions = []
    at = 3
    while at < len(lines):
        name = read_name(lines, at)
        body, at = read_part(lines, at + 1, STEP)
        functions.append(Function(name, body))
    return Code(cells, rows, functions, start[0])


def line_at(lines, at):
    """The line at this place, from 0; an empty one behind the last line."""
    # No line of a well-formed text is empty, so an end that comes too early is refused like a wrong line.
    return lines[at] if at < len(lines) else ""


def read_heading(lines, at, word):
    """The names in the line at this place, which begins with the word and a colon."""
    first, *names = line_at(lines, at).split(" ")
    if first != f"{word}:" or not all([is_name(name) for name in names]):
        raise BadText(at + 1)
    return names


def read_name(lines, at):
    """The name of the function that begins in the line at this place."""
    line = lines[at]
    if not line.endswith(":") or not is_name(line[:-1]):
        raise BadText(at + 1)
    return line[:-1]


def read_part(lines, at, margin):
    """The statements with this margin from this place on, and the place behind them."""
    part = []
    head = read_head(line_at(lines, at), margin)
    while head:
        parts, at = read_parts(lines, at + 1, margin, head[0])
        part.append(head + parts)
        head = read_head(line_at(lines, at), margin)
    return tuple(part), at


def read_parts(lines, at, margin, word):
    """The parts of a statement that has this word and margin, and the place behind them."""
    parts = []
    for number in range(ENTRIES[word].count("part")):
        if number == 1:
            if line_at(lines, at) != margin + SECOND_WORDS[word]:
                raise BadText(at + 1)
            at += 1
        part, at = read_part(lines, at, margin + STEP)
        parts.append(part)
    return tuple(parts), at


def read_head(line, margin):
    """The entries of a statement ahead of its parts; () if none begins in this line with this margin."""
    if len(margin) > WIDEST_MARGIN or not line.startswith(margin):
        return ()
    first, *rest = line[len(margin):].split(" ")
    word = word_of(first)
    if word not in ENTRIES:
        return ()
    kinds = [kind for kind in ENTRIES[word] if kind != "part"]
    if len(rest) != len(kinds) or not all([reads_as(entry, kind) for entry, kind in zip(rest, kinds)]):
        return ()
    return (word, *rest)


def word_of(first):
    """The word of the statement whose line begins with this word; "" if none does."""
    if first == "lastly":
        # In a text this word stands between the two parts of its block only.
        return ""
    return "lastly" if first == "do" else first


def reads_as(entry, kind):
    """Whether the word has the form that this kind of entry has in a text."""
    if kind in FIXED_WORDS:
        return entry in FIXED_WORDS[kind]
    return is_name(entry)
