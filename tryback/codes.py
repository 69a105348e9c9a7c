"""Codes: cells, rows, functions, and the statements in their bodies."""

from tryback.errors import BadCode, NoSuch, TooGreat

MOST_CELLS = 3
MOST_ROWS = 2
MOST_FUNCTIONS = 3
MOST_STATEMENTS = 14
MOST_BLOCKS_AROUND = 2
LONGEST_NAME = 12
LETTERS = "abcdefghijklmnopqrstuvwxyz"

# The kinds of the entries behind each word. In a block the parts come last.
ENTRIES = {
    "put": ("cell",),
    "blank": ("cell",),
    "give": ("cell",),
    "push": ("row",),
    "pop": ("row",),
    "cut": ("row",),
    "answer": ("how",),
    "deeper": ("function",),
    "stop": ("end",),
    "fault": (),
    "may": (),
    "again": (),
    "out": (),
    "either": ("part", "part"),
    "tries": ("part",),
    "told": ("part", "part"),
    "look": ("cell", "part", "part"),
    "guard": ("part", "part"),
    "lastly": ("part", "part"),
}
# The kinds whose words are the same in each code.
FIXED_WORDS = {"how": ("copy", "view"), "end": ("found", "none")}
ROUND_WORDS = ("again", "out")
CHANGE_WORDS = ("put", "blank", "give", "push", "pop", "cut")


class Function:
    """A name and a body. It checks nothing: a Code checks its functions."""

    def __init__(self, name, body):
        self.name = name
        self.body = frozen(body)
        self.many = len(numbered(self.body, ()))

    def __eq__(self, other):
        return isinstance(other, Function) and self.name == other.name and self.body == other.body


class Code:
    """Cells, rows and functions, checked, with the name of the function to start with."""

    def __init__(self, cells, rows, functions, start):
        self.cells = tuple(cells)
        self.rows = tuple(rows)
        self.functions = tuple(functions)
        self.start = start
        check_bounds(self)
        check_names(self)
        names = names_by_kind(self)
        for function in self.functions:
            check_body(function, names)

    def named(self, name):
        """The function of this name."""
        for function in self.functions:
            if function.name == name:
                return function
        raise NoSuch(name)

    def __eq__(self, other):
        return (isinstance(other, Code) and self.cells == other.cells and self.rows == other.rows
                and self.functions == other.functions and self.start == other.start)


def frozen(thing):
    """The thing with each list in it, however deep, made a tuple."""
    if isinstance(thing, (list, tuple)):
        return tuple([frozen(entry) for entry in thing])
    return thing


def is_name(word):
    """Whether the word has the form of a name."""
    if not isinstance(word, str) or not 1 <= len(word) <= LONGEST_NAME:
        return False
    return all([letter in LETTERS for letter in word])


def kinds_of(statement):
    """The kinds of the entries behind the word of the statement; None if the word is unknown."""
    # A Function keeps anything as a statement, so nothing is sure about it here.
    if isinstance(statement, tuple) and statement and isinstance(statement[0], str):
        return ENTRIES.get(statement[0])
    return None


def parts_of(statement):
    """The parts of a block, in order; [] for any other statement."""
    kinds = kinds_of(statement)
    if kinds is None:
        return []
    return [entry for entry, kind in zip(statement[1:], kinds) if kind == "part" and isinstance(entry, tuple)]


def numbered(body, around):
    """All statements of the body, at the places of their numbers, each with the blocks around it.

    A block around is told by its word and the number of the part.
    """
    found = []
    for statement in body:
        found.append((statement, around))
        for number, part in enumerate(parts_of(statement)):
            found.extend(numbered(part, around + ((statement[0], number),)))
    return found


def check_bounds(code):
    """Raise TooGreat if there are too many cells, rows or functions."""
    if len(code.cells) > MOST_CELLS or len(code.rows) > MOST_ROWS or len(code.functions) > MOST_FUNCTIONS:
        raise TooGreat()


def check_names(code):
    """Raise BadCode if a name of the code is malformed or repeated, or if the start is no function."""
    called = [function.name for function in code.functions]
    seen = []
    for name in [*code.cells, *code.rows, *called]:
        if not is_name(name) or name in seen:
            raise BadCode(None, None)
        seen.append(name)
    if code.start not in called:
        raise BadCode(None, None)


def names_by_kind(code):
    """For each kind of entry but the parts, all words that it can be in this code."""
    called = tuple([function.name for function in code.functions])
    return {"cell": code.cells, "row": code.rows, "function": called,
            "how": FIXED_WORDS["how"], "end": FIXED_WORDS["end"]}


def check_body(function, names):
    """Raise the error of the first wrong statement of the function."""
    for number, (statement, around) in enumerate(numbered(function.body, ())):
        if number == MOST_STATEMENTS:
            raise TooGreat()
        if not well_formed(statement, names) or misplaced(statement[0], around):
            raise BadCode(function.name, number)
        if parts_of(statement) and len(around) > MOST_BLOCKS_AROUND:
            raise TooGreat()


def well_formed(statement, names):
    """Whether the word is known and all entries behind it are of the kinds that it asks for."""
    kinds = kinds_of(statement)
    if kinds is None or len(statement) != 1 + len(kinds):
        return False
    return all([fits(entry, kind, names) for entry, kind in zip(statement[1:], kinds)])


def fits(entry, kind, names):
    """Whether the entry is of this kind."""
    if kind == "part":
        return isinstance(entry, tuple)
    return entry in names[kind]


def misplaced(word, around):
    """Whether a statement with this word may not stand inside these blocks."""
    if word in ROUND_WORDS and "tries" not in [block[0] for block in around]:
        return True
    return ("lastly", 1) in around and word not in CHANGE_WORDS
