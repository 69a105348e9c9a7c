"""Passages: from which spots of a body a way through the text can go to which others.

A place is a pair: the path of a spot, and a mood. In the second part of a lastly the mood tells how its first part
ended: "on" behind its last statement, or by what leaves it; the spots there have a place for each mood. Elsewhere the
mood is "".
"""

from tryback.flows import WAYS

FIRST_PLACE = ((0,), "")


class Passages:
    """The places of a body, each with the statement at its spot and with what may come next: places and ways out.

    A spot behind the last statement of its part has the statement None. Some functions end by a fault (faulting).
    """

    def __init__(self, body, faulting):
        self.faulting = faulting
        self.statements = {}
        self.nexts = {}
        goals = {way: [way] for way in WAYS}
        goals["on"] = ["none"]
        self.add_part(body, (), "", goals)

    def add_part(self, part, path, mood, goals):
        """Add the places of a body or a part; the goals tell what comes behind it, by how it ends."""
        for number, statement in enumerate(part):
            spot = (*path, number)
            behind = ((*path, number + 1), mood)
            self.statements[(spot, mood)] = statement
            self.nexts[(spot, mood)] = self.add_statement(statement, spot, {**goals, "on": [behind]})
        last = ((*path, len(part)), mood)
        self.statements[last] = None
        self.nexts[last] = goals["on"]

    def add_statement(self, statement, spot, goals):
        """Add the places inside a statement; what may come next ahead of it is returned."""
        word = statement[0]
        if word in ("again", "out", "fault"):
            return goals[word]
        if word == "stop":
            return goals[statement[1]]
        if word == "may" or (word == "deeper" and statement[1] in self.faulting):
            return goals["on"] + goals["fault"]
        if word in ("either", "told", "look"):
            return self.add_inner(statement[-2], spot, 0, goals) + self.add_inner(statement[-1], spot, 1, goals)
        if word == "tries":
            rounds = [((*spot, 0, 0), ""), *goals["on"]]
            self.add_inner(statement[1], spot, 0, {**goals, "on": rounds, "again": rounds, "out": goals["on"]})
            return rounds
        if word == "guard":
            rescue = self.add_inner(statement[2], spot, 1, goals)
            return self.add_inner(statement[1], spot, 0, {**goals, "fault": rescue})
        if word == "lastly":
            for mood, goal in goals.items():
                self.add_part(statement[2], (*spot, 1), mood, {"on": goal})
            return self.add_inner(statement[1], spot, 0, {mood: [((*spot, 1, 0), mood)] for mood in goals})
        return goals["on"]

    def add_inner(self, part, spot, number, goals):
        """Add the places of a part of the statement at the spot, outside of second parts of lastlys."""
        self.add_part(part, (*spot, number), "", goals)
        return [((*spot, number, 0), "")]

    def places_from(self, starts):
        """The places to which ways can come from these, with themselves, as the keys of a dict."""
        found = {start: True for start in starts}
        waiting = list(starts)
        while waiting:
            for place in self.nexts[waiting.pop()]:
                if place not in WAYS and place not in found:
                    found[place] = True
                    waiting.append(place)
        return found

    def passed(self):
        """The places that some way passes, as the keys of a dict."""
        return self.places_from([FIRST_PLACE])
