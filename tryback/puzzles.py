"""Puzzles: the trees that tell the outcome of each test and of each further try."""

from tryback.errors import BadPuzzle, BadText, NoSuch, TooGreat

MOST_NODES = 500
GREATEST_DEPTH = 30
# What of a spelling ends with each sign, and which signs may stand behind that.
ENDS_WITH = {"0": "digits", "1": "digits", ".": "dot", "-": "child", ")": "child", "(": "opening", ",": "opening"}
MAY_FOLLOW = {"opening": "01.-", "digits": "01(,)", "dot": "(,)", "child": ",)"}
# Outside of all parentheses there is one node and nothing beside it.
ONLY_INSIDE = "-,)"
LEVELS = {"(": 1, ")": -1}


class Puzzle:
    """A node with its bits and its children; a child is a Puzzle or None."""

    def __init__(self, bits=(), children=()):
        all_bits = tuple(bits)
        all_children = tuple(children)
        check_entries(all_bits, all_children)
        self.bits = trimmed(all_bits, 0)
        self.children = trimmed(all_children, None)
        nodes = [child for child in self.children if child is not None]
        self.size = 1 + sum([node.size for node in nodes])
        self.depth = 1 + max([node.depth for node in nodes], default=0)
        if self.size > MOST_NODES or self.depth > GREATEST_DEPTH:
            raise TooGreat()
        self.spelling = spelled(self.bits, self.children)

    def paths(self):
        """The paths of all nodes, each node before its children."""
        found = [()]
        for number, child in enumerate(self.children):
            if child is not None:
                found.extend([(number, *path) for path in child.paths()])
        return found

    def before(self, other):
        """Whether this puzzle has fewer nodes than the other, or as many and a lesser spelling."""
        return (self.size, self.spelling) < (other.size, other.spelling)

    def with_bits(self, path, bits):
        """The puzzle with these bits at the node at the path."""
        node = self[path]
        return self.rebuilt(path, Puzzle(bits, node.children))

    def with_child(self, path, number, child):
        """The puzzle with this child, under this number, at the node at the path."""
        node = self[path]
        return self.rebuilt(path, Puzzle(node.bits, with_entry(node.children, number, child)))

    def rebuilt(self, path, node):
        """The puzzle with this node in place of the one at the path."""
        if not path:
            return node
        child = self.children[path[0]].rebuilt(path[1:], node)
        return Puzzle(self.bits, with_entry(self.children, path[0], child))

    def node_at(self, path):
        """The node at the path; None if there is none."""
        node = self
        for number in path:
            if not 0 <= number < len(node.children) or node.children[number] is None:
                return None
            node = node.children[number]
        return node

    def __contains__(self, x):
        return self.node_at(x) is not None

    def __getitem__(self, at):
        node = self.node_at(at)
        if node is None:
            raise NoSuch(at)
        return node

    def __iter__(self):
        raise TypeError("a Puzzle is not iterated over")

    def __eq__(self, other):
        return isinstance(other, Puzzle) and self.spelling == other.spelling


def check_entries(bits, children):
    """Raise BadPuzzle if an entry is no bit or no child."""
    if not all([is_bit(bit) for bit in bits]):
        raise BadPuzzle()
    if not all([child is None or isinstance(child, Puzzle) for child in children]):
        raise BadPuzzle()


def is_bit(bit):
    """Whether this is the integer 0 or 1."""
    # True and False are no integers to the callers, although Python takes them for 1 and 0.
    return isinstance(bit, int) and not isinstance(bit, bool) and bit in (0, 1)


def trimmed(entries, empty):
    """The tuple without the empty entries at its end."""
    many = len(entries)
    while many > 0 and entries[many - 1] == empty:
        many -= 1
    return entries[:many]


def spelled(bits, children):
    """The spelling of a node."""
    digits = "".join([str(bit) for bit in bits]) or "."
    if not children:
        return digits
    inner = ",".join(["-" if child is None else child.spelling for child in children])
    return f"{digits}({inner})"


def with_entry(children, number, child):
    """The children with this one under this number; missing ones before it are None."""
    if child is None and number >= len(children):
        return children
    missing = [None] * (number - len(children))
    return [*children[:number], *missing, child, *children[number + 1:]]


def grown(bits, families):
    """The puzzle of numbered nodes; number 0 is the top, and each node comes before its children.

    For each node there are its bits and its family: the numbers of its children, or None where there is no child.
    """
    made = {}
    for number in reversed(range(len(bits))):
        children = [None if child is None else made[child] for child in families[number]]
        made[number] = Puzzle(bits[number], children)
    return made[0]


def read_puzzle(text):
    """The puzzle of a spelling."""
    # A string that is too deep may still be no spelling, so its form comes ahead of all bounds.
    check_spelling(text)
    words = text.replace("(", " ( ").replace(")", " ) ").replace(",", " ").split()
    families = [[]]
    children = []
    # From the right, the children of a node are read before its bits.
    for word in words[::-1]:
        if word == ")":
            families.append([])
        elif word == "(":
            children = families.pop()[::-1]
        elif word == "-":
            families[-1].append(None)
        else:
            families[-1].append(Puzzle([int(digit) for digit in word if digit != "."], children))
            children = []
    return families[0][0]


def check_spelling(text):
    """Raise BadText if the text is no spelling."""
    ending = "opening"
    level = 0
    for sign in text:
        if sign not in MAY_FOLLOW[ending] or (level == 0 and sign in ONLY_INSIDE):
            raise BadText(1)
        ending = ENDS_WITH[sign]
        level += LEVELS.get(sign, 0)
    if ending == "opening" or level != 0:
        raise BadText(1)
