"""Networks: how much can be sent from one node to another, and where all that is sent must pass."""

FROM = "from"
TO = "to"


class Network:
    """Nodes with arcs between them. Each arc has room for a number of units, which are sent from FROM to TO."""

    def __init__(self):
        # The room that is left on each arc, by the nodes at its beginning and at its end. What is sent on an arc can be
        # sent back; so for each arc there is one that leads back, with as much room.
        self.rooms = {FROM: {}, TO: {}}
        self.arcs = []

    def add_arc(self, node, other, room):
        """Add an arc; there is none between these nodes yet, in neither direction."""
        self.rooms.setdefault(node, {})[other] = room
        self.rooms.setdefault(other, {})[node] = 0
        self.arcs.append((node, other, room))

    def fill(self):
        """Send as many units as can be sent."""
        links = self.links_from()
        while TO in links:
            node = TO
            while node != FROM:
                before = links[node]
                self.rooms[before][node] -= 1
                self.rooms[node][before] += 1
                node = before
            links = self.links_from()

    def links_from(self):
        """For each node to which one more unit can be sent, the node ahead of it on its path; None for FROM."""
        links = {FROM: None}
        layer = [FROM]
        while layer:
            further = []
            for node in layer:
                for other, room in self.rooms[node].items():
                    if room > 0 and other not in links:
                        links[other] = node
                        further.append(other)
            layer = further
        return links

    def leading_to(self):
        """The nodes from which one more unit can be sent to TO, as the keys of a dict."""
        found = {TO: True}
        waiting = [TO]
        while waiting:
            node = waiting.pop()
            for other in list(self.rooms[node]):
                if self.rooms[other][node] > 0 and other not in found:
                    found[other] = True
                    waiting.append(other)
        return found

    def paths(self):
        """For each unit that is sent, the nodes between FROM and TO on its path."""
        sent = {}
        for node, other, room in self.arcs:
            sent.setdefault(node, {})[other] = room - self.rooms[node][other]
        many = sum([room - self.rooms[node][other] for node, other, room in self.arcs if node == FROM])
        found = []
        for _ in range(many):
            path = [take_one(sent, FROM)]
            while path[-1] != TO:
                path.append(take_one(sent, path[-1]))
            found.append(path[:-1])
        return found


def take_one(sent, node):
    """Take one of the units that are sent on from this node; the node to which it goes is returned."""
    other = [other for other, many in sent[node].items() if many > 0][0]
    sent[node][other] -= 1
    return other
