"""Open ways: ways from a change of a cell to a way out on which the cell is neither changed again nor given back.

An open way is told as a flat tuple: the paths of its spots, from the one ahead of the change on, and its way out.
"""

from tryback.flows import WAYS
from tryback.networks import FROM, TO, Network


class OpenWays:
    """The open ways through a body, whose changes stand at places that some way passes.

    No open way goes on behind a change or a give of the cell; but gives at some places (away) are taken to be absent.
    """

    def __init__(self, passages, cell, away):
        self.passages = passages
        self.cell = cell
        self.away = away
        self.changes = [place for place in passages.passed() if self.word_at(place) in ("put", "blank")]

    def word_at(self, place):
        """The word of the statement at the place if it changes the cell or gives it back; None otherwise."""
        statement = self.passages.statements[place]
        if statement is None or statement[0] not in ("put", "blank", "give") or statement[1] != self.cell:
            return None
        return statement[0]

    def behind(self, place):
        """The places that come next on open ways."""
        found = []
        for target in self.passages.nexts[place]:
            if target not in WAYS and (target in self.away or self.word_at(target) is None):
                found.append(target)
        return found

    def ways_out(self, place):
        """The ways out that may come next."""
        return [target for target in self.passages.nexts[place] if target in WAYS]

    def links_avoiding(self, avoided):
        """For each place on ways from changes that pass none of the avoided ones, the place ahead of it.

        For the places of the changes, where these ways begin, it is None.
        """
        found = {change: None for change in self.changes}
        layer = list(self.changes)
        while layer:
            further = []
            for place in layer:
                for target in self.behind(place):
                    if target not in found and target not in avoided:
                        found[target] = place
                        further.append(target)
            layer = further
        return found

    def way_avoiding(self, avoided):
        """An open way that passes none of the avoided places behind its change; None if there is none."""
        links = self.links_avoiding(avoided)
        for place in links:
            if self.ways_out(place):
                end = self.ways_out(place)[0]
                paths = []
                while place is not None:
                    paths.append(place[0])
                    place = links[place]
                return (*paths[::-1], end)
        return None

    def inner_places(self):
        """The places that open ways pass behind their changes."""
        links = self.links_avoiding({})
        before = {}
        for place in links:
            for target in self.behind(place):
                before.setdefault(target, []).append(place)
        found = {place: True for place in links if self.ways_out(place)}
        waiting = list(found)
        while waiting:
            for place in before.get(waiting.pop(), []):
                if place not in found:
                    found[place] = True
                    waiting.append(place)
        return [place for place in found if place not in self.changes]

    def network(self, stops):
        """The open ways as a network that is filled; behind changes, there is room for one way at each of the stops."""
        network = Network()
        links = self.links_avoiding({})
        plenty = len(links) + 1
        for place in links:
            if links[place] is None:
                network.add_arc(FROM, (*place, "out"), plenty)
            else:
                network.add_arc((*place, "in"), (*place, "out"), 1 if place in stops else plenty)
            for target in [*self.behind(place), *self.ways_out(place)]:
                if target in WAYS:
                    network.add_arc((*place, "out"), target, plenty)
                elif target != place:
                    network.add_arc((*place, "out"), (*target, "in"), plenty)
        for way in WAYS:
            network.add_arc(way, TO, plenty)
        network.fill()
        return network


def told_ways(network):
    """The open ways that a network is filled with."""
    found = []
    for path in network.paths():
        found.append((*[node[0] for node in path[:-1] if node[2] == "out"], path[-1]))
    return tuple(found)


def first_stops(network, stops):
    """The least set of stops that all ways of the network pass of which each is passed as soon as possible."""
    links = network.links_from()
    return [place for place in stops if (*place, "in") in links and (*place, "out") not in links]


def last_stops(network, stops):
    """The least set of stops that all ways of the network pass of which each is passed as late as possible."""
    leading = network.leading_to()
    return [place for place in stops if (*place, "out") in leading and (*place, "in") not in leading]
