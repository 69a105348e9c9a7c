"""Mending a cell: where gives can be put in, so that a function gives the cell back on all ways, and which can go."""

from itertools import combinations

from tryback.codes import Code, Function
from tryback.errors import NoCell, NoSpot, TooMany
from tryback.flows import WAYS
from tryback.openways import OpenWays, first_stops, last_stops, told_ways
from tryback.passages import Passages
from tryback.ways import faulting, spots_of

MOST_SPOTS = 16


class Mending:
    """The least sets of spots that mend a cell, and as many open ways; or a way that shows that no set does."""

    def __init__(self, first, last, ways, stuck):
        self.count = None if first is None else len(first)
        self.first = first
        self.last = last
        self.ways = ways
        self.stuck = stuck


def allowed(code, function, cell):
    """The paths of the spots at which a give of the cell harms nothing, in order."""
    return paths_of(allowed_places(passages_for(code, function, cell), cell))


def mending(code, function, cell):
    """The least sets of allowed spots that mend the cell in the function."""
    passages = passages_for(code, function, cell)
    places = allowed_places(passages, cell)
    open_ways = OpenWays(passages, cell, {})
    stuck = open_ways.way_avoiding(places)
    if stuck is not None:
        return Mending(None, None, None, stuck)
    network = open_ways.network(places)
    first = paths_of(first_stops(network, places))
    last = paths_of(last_stops(network, places))
    return Mending(first, last, told_ways(network), None)


def least_sets(code, function, cell):
    """All least sets of allowed spots that mend the cell in the function, in order."""
    many = mending(code, function, cell).count
    if many is None:
        return []
    passages = passages_for(code, function, cell)
    open_ways = OpenWays(passages, cell, {})
    places = allowed_places(passages, cell)
    choices = sorted([place for place in open_ways.inner_places() if place in places])
    if len(choices) > MOST_SPOTS:
        raise TooMany(len(choices))
    return [paths_of(chosen) for chosen in sets_of(choices, many) if open_ways.way_avoiding(chosen) is None]


def mended(code, function, cell, spots):
    """The code with a give of the cell put in at each of these spots of the function."""
    check_names(code, function, cell)
    body = code.named(function).body
    known = spots_of(body)
    for spot in spots:
        if tuple(spot) not in known:
            raise NoSpot(spot)
    chosen = [tuple(spot) for spot in spots]
    functions = []
    for one in code.functions:
        new_body = with_gives(one.body, (), chosen, cell) if one.name == function else one.body
        functions.append(Function(one.name, new_body))
    return Code(code.cells, code.rows, functions, code.start)


def needless(code, function, cell):
    """The paths of the spots ahead of the most gives that may go together, in order; None if some way is open."""
    passages = passages_for(code, function, cell)
    if OpenWays(passages, cell, {}).way_avoiding({}) is not None:
        return None
    # In the second part of a lastly, where there are moods, gives stay.
    gives = {place: True for place, statement in passages.statements.items()
             if statement == ("give", cell) and place[1] == ""}
    needed = first_stops(OpenWays(passages, cell, gives).network(gives), gives)
    return paths_of([place for place in gives if place not in needed])


def passages_for(code, function, cell):
    """The passages of the function."""
    check_names(code, function, cell)
    return Passages(code.named(function).body, faulting(code))


def check_names(code, function, cell):
    """Raise NoSuch or NoCell if there is no such function or cell."""
    code.named(function)
    if cell not in code.cells:
        raise NoCell(cell)


def allowed_places(passages, cell):
    """The places at which a give of the cell harms nothing, as the keys of a dict."""
    found = {}
    for place in passages.passed():
        # In the second part of a lastly, where there are moods, none is put in.
        if place[1] == "" and not is_harmful(passages, cell, place):
            found[place] = True
    return found


def is_harmful(passages, cell, place):
    """Whether some way from the place meets what a give would harm ahead of the next put, blank or give of the cell."""
    seen = {place: True}
    waiting = [place]
    while waiting:
        place = waiting.pop()
        statement = passages.statements[place]
        if is_harmed(statement, cell):
            return True
        if statement not in (("put", cell), ("blank", cell), ("give", cell)):
            for target in passages.nexts[place]:
                if target not in WAYS and target not in seen:
                    seen[target] = True
                    waiting.append(target)
    return False


def is_harmed(statement, cell):
    """Whether a give ahead of the statement changes what it does."""
    if statement is None:
        return False
    return statement[0] == "deeper" or statement == ("answer", "copy") or statement[:2] == ("look", cell)


def sets_of(places, many):
    """All sets of so many of the places, in order, as tuples."""
    return list(combinations(places, many))


def paths_of(places):
    """The paths of the places, in order."""
    return tuple(sorted([path for path, _ in places]))


def with_gives(part, path, spots, cell):
    """The part, whose spots begin with this path, with a give of the cell put in at each of these spots."""
    found = []
    for number, statement in enumerate(part):
        spot = (*path, number)
        if spot in spots:
            found.append(("give", cell))
        found.append(statement_with_gives(statement, spot, spots, cell))
    if (*path, len(part)) in spots:
        found.append(("give", cell))
    return tuple(found)


def statement_with_gives(statement, spot, spots, cell):
    """The statement at the spot, with a give of the cell put in at each of these spots."""
    head = [entry for entry in statement if isinstance(entry, str)]
    parts = [entry for entry in statement if not isinstance(entry, str)]
    return (*head, *[with_gives(part, (*spot, at), spots, cell) for at, part in enumerate(parts)])
