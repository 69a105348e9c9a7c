"""Merging: the bodies of two functions of one shape, put together into one.

Bodies have one shape if they differ in puts, blanks and gives alone, and in the words copy and view.
"""

from tryback.rules import CELL_WORDS


def outline(part):
    """What bodies or parts of the same shape have in common."""
    _, others = divided(part)
    return tuple([outlined(statement) for statement in others])


def outlined(statement):
    """What statements of the same shape have in common."""
    if statement[0] == "answer":
        return ("answer",)
    return tuple([entry if isinstance(entry, str) else outline(entry) for entry in statement])


def divided(part):
    """The changes of cells in the part, in lists between the other statements, and the list of these."""
    changes = [[]]
    others = []
    for statement in part:
        if statement[0] in CELL_WORDS:
            changes[-1].append(statement)
        else:
            others.append(statement)
            changes.append([])
    return changes, others


def merged(part, twin):
    """A part with the statements of both parts, which have the same shape.

    A change of a cell in the second one stands behind the word "other". An answer has the words of both.
    """
    changes, others = divided(part)
    changes_too, others_too = divided(twin)
    statements = []
    for number, own in enumerate(changes):
        statements.extend(own)
        statements.extend([("other", change) for change in changes_too[number]])
        if number < len(others):
            statements.append(merged_statement(others[number], others_too[number]))
    return tuple(statements)


def merged_statement(statement, twin):
    """The two statements as one."""
    if statement[0] == "answer":
        return (*statement, twin[1])
    pairs = list(zip(statement, twin))
    return tuple([entry if isinstance(entry, str) else merged(entry, other) for entry, other in pairs])
