"""Derivations: the least trees with which visits come out so or so.

Rules (see tryback.rules) tell how a visit goes on. Its context tells what is known when it begins, its places tell
where it stands, and its outs how it comes out. A tree costs a pair: the number of its nodes, and its depth, which
decides between trees of the same size. The cheapest one is always worked off first; so the first tree that leads
somewhere is a least one.
"""

from heapq import heappop, heappush

from tryback.errors import TooGreat
from tryback.puzzles import MOST_NODES, grown
from tryback.rules import GOAL

ONE_NODE = (1, 1)


class Derivation:
    """The places to which the visits come, and the outs of each context that is reached.

    A link tells how a visit came to a place or an out: the place ahead of it, and the bit that it used, or, for a call,
    None and what was called: a pair of a context and an out, or None where there was no child. The first place of a
    visit has the link None.
    """

    def __init__(self, rules, limit):
        self.rules = rules
        # Trees that cost as much or more are left alone; None: there is no limit.
        self.limit = limit
        # By contexts: the links of the places, the outs with their costs and links, and who waits for outs.
        self.links = {}
        self.endings = {}
        self.callers = {}
        # What is still to be worked off, by costs, and a heap of these costs.
        self.offers = {}
        self.costs = []
        self.reach(rules.start)
        self.work_off()

    def reach(self, context):
        """Begin with a context, if it is a new one."""
        if context not in self.links:
            self.links[context] = {}
            self.endings[context] = {}
            self.callers[context] = []
            self.offer(ONE_NODE, context, self.rules.first_stand(context), None)

    def offer(self, cost, context, stand, link):
        """Note that a visit can come to stand there: at a place, or with an out behind its end."""
        place, out = stand
        if place is None and out is None:
            return
        if cost not in self.offers:
            self.offers[cost] = []
            heappush(self.costs, cost)
        self.offers[cost].append((context, place, out, link))

    def work_off(self):
        """Work off all offers, up to the goal of the start visit or the limit."""
        while self.costs and self.cost_of_goal() is None and (self.limit is None or self.costs[0] < self.limit):
            cost = self.costs[0]
            layer = self.offers[cost]
            if layer:
                # What these lead to at the same cost comes into a layer of its own: shorter readings come first.
                self.offers[cost] = []
                for context, place, out, link in layer:
                    self.take(cost, context, place, out, link)
            else:
                heappop(self.costs)
                del self.offers[cost]

    def take(self, cost, context, place, out, link):
        """Go on from the place, or tell the callers of the out, if it is a new one."""
        if place is None:
            if out not in self.endings[context]:
                self.endings[context][out] = (cost, link)
                for caller, calling, spent in list(self.callers[context]):
                    self.come_back(spent, caller, calling, (context, out))
        elif place not in self.links[context]:
            self.links[context][place] = link
            if self.rules.step(context, place)[0] == "ask":
                for bit in (0, 1):
                    self.offer(cost, context, self.rules.behind_bit(context, place, bit), (place, bit, None))
            else:
                self.call(cost, context, place)

    def call(self, cost, context, place):
        """Go on behind a call, without a child and with each way in which one can come out."""
        missed = self.rules.behind_call(context, place, self.rules.missed)
        self.offer(cost, context, missed, (place, None, None))
        callee = self.rules.callee(context, place)
        self.reach(callee)
        self.callers[callee].append((context, place, cost))
        for out in list(self.endings[callee]):
            self.come_back(cost, context, place, (callee, out))

    def come_back(self, spent, context, place, called):
        """Go on behind a call with a child."""
        callee, out = called
        size, depth = self.endings[callee][out][0]
        cost = (spent[0] + size, max(spent[1], depth + 1))
        # Behind the goal nothing more is needed of the tree.
        stand = (None, GOAL) if out == GOAL else self.rules.behind_call(context, place, out)
        self.offer(cost, context, stand, (place, None, called))

    def cost_of_goal(self):
        """The cost of a least tree in which the start visit comes to the goal; None if none is known."""
        cost, _ = self.endings[self.rules.start].get(GOAL, (None, None))
        return cost

    def least_puzzle(self, context, out):
        """A least puzzle with which a visit with this context has this out."""
        size, _ = self.endings[context][out][0]
        # A tree beyond all bounds is not even built.
        if size > MOST_NODES:
            raise TooGreat()
        nodes = [(context, out)]
        bits = []
        families = []
        while len(bits) < len(nodes):
            used = self.used_by(nodes[len(bits)])
            bits.append([bit for bit, _ in used if bit is not None])
            family = []
            for called in [called for bit, called in used if bit is None]:
                family.append(None if called is None else len(nodes))
                if called is not None:
                    nodes.append(called)
            families.append(family)
        return grown(bits, families)

    def used_by(self, node):
        """The bits and the calls that lead to the out, in order, as pairs of a bit and of what was called."""
        context, out = node
        _, link = self.endings[context][out]
        used = []
        while link is not None:
            place, bit, called = link
            used.append((bit, called))
            link = self.links[context][place]
        return used[::-1]


def least_to_goal(all_rules):
    """A least puzzle with which the start visit comes to the goal of one of these rules; None if there is none."""
    best = None
    limit = None
    for rules in all_rules:
        derivation = Derivation(rules, limit)
        cost = derivation.cost_of_goal()
        if cost is not None:
            best = derivation
            limit = cost
    return None if best is None else best.least_puzzle(best.rules.start, GOAL)
