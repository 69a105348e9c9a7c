"""Breaks: which functions do not keep which things, in visits ahead of which everything was kept.

A visit begins with a context: its function, a flag for each cell (whether it is blank), and for each row whether it
has items. It stands at places: the number of a step, whether the last call came back with found, what was done to each
cell, and for each row whether it has fallen, that is, whether an item was taken away that was there when the visit
began. For each place, the heights of the rows with which visits come to it are kept together as one set.
"""

from tryback.flows import Flow
from tryback.heightsets import NOTHING_ABOVE, HeightSets
from tryback.rules import CELL_WORDS, KEPT, ROW_WORDS, bodies_of, flags_now, how_behind, is_blank, numbers_of, replaced


class Breaks:
    """The broken pairs of a code: pairs of a function and a thing, the keys of the dict pairs."""

    def __init__(self, code):
        self.flows = {name: Flow(body) for name, body in bodies_of(code).items()}
        self.cell_numbers = numbers_of(code.cells)
        self.row_numbers = numbers_of(code.rows)
        self.sets = HeightSets(len(code.rows))
        self.patterns = patterns_of(len(code.rows))
        self.pairs = {}
        # By contexts: the heights at each place, the ways of visits that keep everything, and the places that call it.
        self.seen = {}
        self.ways = {}
        self.callers = {}
        # The heights from which it is still to be gone on, by pairs of a context and a place.
        self.fresh = {}
        self.reach((code.start, (True,) * len(code.cells), (False,) * len(code.rows)))
        self.work_off()

    def reach(self, context):
        """Begin with a context, if it is a new one."""
        if context not in self.seen:
            self.seen[context] = {}
            self.ways[context] = {}
            self.callers[context] = {}
            _, flags, filled = context
            first = (self.flows[context[0]].start, False, (KEPT,) * len(flags), (False,) * len(filled))
            self.follow(context, first, NOTHING_ABOVE)

    def work_off(self):
        """Go on from all places until nothing is new."""
        while self.fresh:
            layer = self.fresh
            self.fresh = {}
            for (context, place), heights in layer.items():
                self.go_on(context, place, heights)

    def go_on(self, context, place, heights):
        """Go on from a place with these heights."""
        at, last, hows, fallen = place
        step = self.flows[context[0]].steps[at]
        if step[0] == "ask":
            self.follow(context, (step[2], last, hows, fallen), heights)
            self.follow(context, (step[3], last, hows, fallen), heights)
        elif step[0] == "deeper":
            self.come_back(context, place, "none", heights)
            # No visit begins any more while an item is away that cannot come back.
            if not any(fallen):
                self.call(context, place, heights)
        else:
            self.end(context, place, step[1], heights)

    def call(self, context, place, heights):
        """Go on behind a call with a child that keeps everything."""
        at, _, hows, _ = place
        function = self.flows[context[0]].steps[at][1]
        flags = flags_now(context[1], hows)
        for pattern in self.patterns:
            some = self.with_pattern(context, pattern, heights)
            if some:
                callee = (function, flags, pattern)
                self.reach(callee)
                self.callers[callee][(context, place)] = True
                for way in list(self.ways[callee]):
                    self.come_back(context, place, way, some)

    def come_back(self, context, place, way, heights):
        """Go on behind a call that came back in this way and did nothing to the things."""
        at, _, hows, fallen = place
        _, _, then, fault = self.flows[context[0]].steps[at]
        self.follow(context, (fault if way == "fault" else then, way == "found", hows, fallen), heights)

    def with_pattern(self, context, pattern, heights):
        """Those of the heights with which exactly the rows of the pattern have items."""
        for row, (filled, wanted) in enumerate(zip(context[2], pattern)):
            if filled and not wanted:
                return 0
            if not filled:
                heights = self.sets.above(heights, row) if wanted else self.sets.grounded(heights, row)
        return heights

    def end(self, context, place, way, heights):
        """Note what a visit that ends so does not keep, and tell its callers if it keeps everything."""
        _, _, hows, fallen = place
        for cell, number in self.cell_numbers.items():
            if hows[number] != KEPT:
                self.pairs[(context[0], cell)] = True
        for row, number in self.row_numbers.items():
            if fallen[number] or self.sets.above(heights, number):
                self.pairs[(context[0], row)] = True
        keeps_cells = all([how == KEPT for how in hows])
        if keeps_cells and not any(fallen) and heights & NOTHING_ABOVE and way not in self.ways[context]:
            self.ways[context][way] = True
            for caller, calling in list(self.callers[context]):
                some = self.with_pattern(caller, context[2], self.seen[caller][calling])
                self.come_back(caller, calling, way, some)

    def follow(self, context, place, heights):
        """Note the places to which visits come from this one without using a bit or calling."""
        steps = self.flows[context[0]].steps
        waiting = [(place, heights)]
        while waiting:
            place, heights = waiting.pop()
            if heights and steps[place[0]][0] in ("ask", "deeper", "end"):
                self.arrive(context, place, heights)
            elif heights:
                waiting.extend(self.behind(context, place, heights))

    def arrive(self, context, place, heights):
        """Note that visits come to the place with these heights."""
        known = self.seen[context].get(place, 0)
        fresh = heights & ~known
        if fresh:
            self.seen[context][place] = known | fresh
            key = (context, place)
            self.fresh[key] = self.fresh.get(key, 0) | fresh

    def behind(self, context, place, heights):
        """The places behind a step that neither asks nor calls, each with its heights, as pairs."""
        at, last, hows, fallen = place
        step = self.flows[context[0]].steps[at]
        if step[0] == "told":
            return [((step[1] if last else step[2], last, hows, fallen), heights)]
        if step[0] == "look":
            number = self.cell_numbers[step[1]]
            blank = is_blank(context[1][number], hows[number])
            return [((step[3] if blank else step[2], last, hows, fallen), heights)]
        word, name = step[1]
        if word in ROW_WORDS:
            return self.behind_row(context, (step[2], last, hows, fallen), heights, (word, self.row_numbers[name]))
        if word in CELL_WORDS:
            number = self.cell_numbers[name]
            hows = replaced(hows, number, how_behind(word, context[1][number]))
        return [((step[2], last, hows, fallen), heights)]

    def behind_row(self, context, place, heights, change):
        """The places behind a push, a pop or a cut, with their heights; the place is the next one if nothing falls."""
        word, row = change
        at, last, hows, fallen = place
        if fallen[row]:
            # Whatever is done now, this row is not kept.
            return [(place, heights)]
        if word == "push":
            return [(place, self.sets.pushed(heights, row))]
        if word == "cut":
            return [(place, self.sets.cut(heights, row))]
        popped = self.sets.popped(heights, row)
        grounded = self.sets.grounded(heights, row)
        if not context[2][row]:
            return [(place, popped | grounded)]
        return [(place, popped), ((at, last, hows, replaced(fallen, row, True)), grounded)]


def patterns_of(many):
    """All tuples of so many entries True or False."""
    found = [()]
    for _ in range(many):
        found = [(*pattern, entry) for pattern in found for entry in (False, True)]
    return found
