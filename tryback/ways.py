"""Ways through the text: the spots of a body, and the functions that some way leaves by a fault."""

from tryback.codes import frozen, parts_of
from tryback.passages import Passages


def spots_of(body):
    """The paths of all spots of the body, in the order of the text."""
    return spots_in(frozen(body), ())


def spots_in(part, path):
    """The paths of all spots of a part, which begin with this path."""
    found = []
    for number, statement in enumerate(part):
        found.append((*path, number))
        for at, inner in enumerate(parts_of(statement)):
            found.extend(spots_in(inner, (*path, number, at)))
    found.append((*path, len(part)))
    return found


def faulting(code):
    """The names of the functions that some way through their text leaves by a fault."""
    names = []
    grows = True
    while grows:
        # A function that faults may let others fault that call it.
        more = [function.name for function in code.functions
                if function.name not in names and can_fault(function.body, names)]
        names = names + more
        grows = len(more) > 0
    return names


def can_fault(body, names):
    """Whether some way through the body ends by a fault, if calls of these functions can."""
    passages = Passages(body, names)
    return any(["fault" in passages.nexts[place] for place in passages.passed()])
