"""Tables: what calls do to cells, for all puzzles at once."""

from tryback.derivations import Derivation
from tryback.errors import NoContext, NoWay
from tryback.flows import WAYS
from tryback.rules import CellRules

# The words for what is done to a cell, at the places of the numbers for it.
HOWS = ("kept", "blanked", "changed")


class Maps:
    """The functions with flags that are reached, and how their visits come out."""

    def __init__(self, code):
        self.derivation = Derivation(CellRules(code, ()), None)
        reached = list(self.derivation.endings)
        contexts = []
        for function in code.functions:
            contexts.extend(sorted([context for context in reached if context[0] == function.name]))
        self.contexts = tuple(contexts)

    def outs(self, function, flags):
        """The ways out of a visit with these flags, with what it does to each cell and the least size of a puzzle."""
        found = []
        for out, (cost, _) in self.outs_by_number(function, flags).items():
            found.append((WAYS.index(out[0]), out[1], cost[0]))
        return tuple([(WAYS[number], in_words(hows), size) for number, hows, size in sorted(found)])

    def puzzle_for(self, function, flags, way, how):
        """A least puzzle for a visit with these flags that comes out so; the visit is its top."""
        for out in self.outs_by_number(function, flags):
            if (out[0], in_words(out[1])) == (way, tuple(how)):
                return self.derivation.least_puzzle((function, tuple(flags)), out)
        raise NoWay(way, tuple(how))

    def outs_by_number(self, function, flags):
        """The outs of a visit with these flags, with their costs and links."""
        context = (function, tuple(flags))
        if context not in self.derivation.endings:
            raise NoContext(function, tuple(flags))
        return self.derivation.endings[context]


def maps(code):
    """The maps of the code."""
    return Maps(code)


def in_words(hows):
    """What is done to the cells, in words."""
    return tuple([HOWS[how] for how in hows])
