"""Flows: the bodies of functions, taken apart into steps.

Each step tells the numbers of the steps that may come behind it. Leaving blocks, being rescued by a guard and what is
done lastly are worked into these numbers, so that the number of a step alone tells where a visit stands. The steps:

("do", statement, then): one of the statements that a trace shows;
("ask", word, one, zero): a bit for an either, a tries or a may;
("deeper", function, then, fault): a call that comes back, or comes back with a fault;
("told", found, other) and ("look", cell, filled, blank): tests without a bit;
("end", way): the end of the visit.
"""

WAYS = ("found", "none", "fault")


class Flow:
    """The steps of a body, by their numbers, and the number of the first one.

    In its methods the goals are the numbers of the steps to which a part can go: behind it ("on"), by stop ("found",
    "none"), by "fault", and inside a tries by "again" and "out".
    """

    def __init__(self, body):
        self.steps = []
        goals = {way: self.added(("end", way)) for way in WAYS}
        goals["on"] = goals["none"]
        self.start = self.part(body, goals)

    def added(self, step):
        """The number of the step, which is put behind the others."""
        self.steps.append(step)
        return len(self.steps) - 1

    def part(self, part, goals):
        """The number of the first step of a body or a part."""
        first = goals["on"]
        # A step tells the one behind it, so the last one is made first.
        for statement in part[::-1]:
            first = self.statement(statement, {**goals, "on": first})
        return first

    def statement(self, statement, goals):
        """The number of the first step of a statement."""
        word = statement[0]
        if word in ("again", "out", "fault"):
            return goals[word]
        if word == "stop":
            return goals[statement[1]]
        if word == "deeper":
            return self.added(("deeper", statement[1], goals["on"], goals["fault"]))
        if word == "may":
            return self.added(("ask", "may", goals["fault"], goals["on"]))
        if word in ("either", "told", "look"):
            return self.fork(statement, goals)
        if word == "tries":
            return self.tries(statement[1], goals)
        if word == "guard":
            rescue = self.part(statement[2], goals)
            return self.part(statement[1], {**goals, "fault": rescue})
        if word == "lastly":
            return self.lastly(statement[1], statement[2], goals)
        return self.added(("do", statement, goals["on"]))

    def fork(self, statement, goals):
        """The number of the step of an either, a told or a look."""
        *head, first, second = statement
        if head[0] == "either":
            head = ["ask", "either"]
        return self.added((*head, self.part(first, goals), self.part(second, goals)))

    def tries(self, part, goals):
        """The number of the step that asks for a round."""
        # The part comes back to this step, so its number is needed before the step can be told.
        number = self.added(None)
        first = self.part(part, {**goals, "on": number, "again": number, "out": goals["on"]})
        self.steps[number] = ("ask", "tries", first, goals["on"])
        return number

    def lastly(self, first, second, goals):
        """The number of the first step of a lastly."""
        # There is a copy of the second part for each way in which the first one can end.
        behind = {how: self.part(second, {**goals, "on": goal}) for how, goal in goals.items()}
        return self.part(first, behind)
