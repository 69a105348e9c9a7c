"""Puzzles: points 12 to 15 and the heading tryback/puzzles.py."""

import inspect
import itertools
import random
import re
import unittest

from samples import node_at, random_puzzle
from tryback import puzzles
from tryback.errors import BadPuzzle, BadText, NoSuch, TooGreat
from tryback.puzzles import Puzzle, read_puzzle

DOT = Puzzle()
NO_BITS = [2, -1, 10 ** 30, -10 ** 30, 3, 1.0, 0.0, "", "0", "1", "10", None, True, False, (), (0,), [1], DOT, b"1"]
NO_CHILDREN = [0, 1, "", ".", "1(.)", "-", (), [], (None,), [DOT], {}, True, False, b""]


def chain(many, bits=()):
    """A puzzle with this many nodes, each but the last with one child."""
    made = Puzzle(bits)
    for _ in range(many - 1):
        made = Puzzle(bits, [made])
    return made


def small_puzzles(levels, bits=((), (1,), (0, 1))):
    """Puzzles of at most so many levels, with at most two children at each node."""
    children = [None] + (small_puzzles(levels - 1, bits) if levels > 1 else [])
    families = [()] + [(one,) for one in children[1:]] + [(one, two) for one in children for two in children[1:]]
    return [Puzzle(own, family) for own in bits for family in families]


def is_spelling(text):
    """Whether the text is a spelling, found by making innermost nodes shorter and shorter."""
    if not re.fullmatch("[01.,()-]*", text):
        return False
    text = re.sub(r"\.|[01]+", "h", text)
    shorter = re.sub(r"h\([hn-](,[hn-])*\)", "n", text)
    while shorter != text:
        text, shorter = shorter, re.sub(r"h\([hn-](,[hn-])*\)", "n", shorter)
    return text in ("h", "n")


class Case(unittest.TestCase):
    def bad(self, *given):
        with self.assertRaises(BadPuzzle, msg=given):
            Puzzle(*given)

    def great(self, make, *given):
        with self.assertRaises(TooGreat):
            make(*given)

    def wrong(self, text):
        self.assertFalse(is_spelling(text), text)
        with self.assertRaises(BadText, msg=text) as told:
            read_puzzle(text)
        self.assertEqual(told.exception.line, 1)

    def none_at(self, path, ask, *given):
        with self.assertRaises(NoSuch, msg=path) as told:
            ask(*given)
        self.assertEqual(told.exception.name, path)


class Nodes(Case):
    def test_nothing_given(self):
        for made in (Puzzle(), Puzzle([]), Puzzle((), ()), Puzzle([], []), Puzzle(bits=[], children=())):
            self.assertEqual((made.bits, made.children, made.size, made.depth, made.spelling), ((), (), 1, 1, "."))

    def test_zeros_at_the_end_are_dropped(self):
        for given, kept in [([0], ()), ([0, 0, 0], ()), ([1], (1,)), ([1, 0], (1,)), ([0, 1], (0, 1)), ((1, 1), (1, 1)),
                            ([0, 0, 1, 0, 1, 0, 0], (0, 0, 1, 0, 1)), ([1] * 3 + [0] * 5000, (1, 1, 1)),
                            ([0] * 5000 + [1], (0,) * 5000 + (1,))]:
            made = Puzzle(given)
            self.assertEqual((made.bits, made.spelling), (kept, "".join(map(str, kept)) or "."))
            self.assertIsInstance(made.bits, tuple)

    def test_none_at_the_end_is_dropped(self):
        one, two = Puzzle([1]), Puzzle([0, 1])
        for given, kept in [([None], ()), ([None] * 4, ()), ([one, None], (one,)), ([None, one], (None, one)),
                            ((one, two), (one, two)), ([None, one, None, two, None, None], (None, one, None, two)),
                            ([None] * 5000 + [one], (None,) * 5000 + (one,))]:
            made = Puzzle((), given)
            self.assertEqual(len(made.children), len(kept))
            self.assertTrue(all(here is there for here, there in zip(made.children, kept)))
            self.assertIsInstance(made.children, tuple)
        # A child without bits and children is a node like others.
        self.assertEqual(Puzzle([], [DOT, DOT, None]).children, (DOT, DOT))

    def test_lists_changed_afterwards_change_nothing(self):
        bits, children = [1, 0, 1], [None, Puzzle([1])]
        made = Puzzle(bits, children)
        bits[0] = 0
        bits.append(1)
        children[1] = None
        children.append(DOT)
        self.assertEqual((made.bits, made.children, made.size), ((1, 0, 1), (None, Puzzle([1])), 2))
        self.assertEqual(made.spelling, "101(-,1)")

    def test_entries_that_are_no_bits(self):
        for worth in NO_BITS:
            for bits in ([worth], [worth, 0], [1, worth], [0, worth, 0, 0], [worth, worth], (1, 0, worth)):
                self.bad(bits)
                self.bad(bits, [DOT])
        self.bad("1")
        self.bad("0")

    def test_children_that_are_none(self):
        for worth in NO_CHILDREN:
            for children in ([worth], [worth, None], [DOT, worth], [None, worth, None, None], (worth, DOT)):
                self.bad([], children)
                self.bad([1], children)
        self.bad([2], [0])

    def test_size_and_depth(self):
        for made, size, depth in [(chain(1), 1, 1), (chain(2), 2, 2), (chain(30), 30, 30), (Puzzle([], [DOT, DOT]), 3, 2),
                                  (Puzzle([], [None, chain(3), None, chain(5), DOT]), 10, 6),
                                  (Puzzle([1], [chain(5), chain(3)]), 9, 6), (Puzzle([], [None] * 700 + [DOT]), 2, 2)]:
            self.assertEqual((made.size, made.depth), (size, depth))

    def test_500_nodes_and_501(self):
        self.assertEqual(Puzzle([], [DOT] * 499).size, 500)
        self.great(Puzzle, [], [DOT] * 500)
        self.great(Puzzle, [1], [DOT] * 2000)
        self.great(Puzzle, [], [DOT] * 250 + [None] + [DOT] * 250)
        half = Puzzle([], [DOT] * 249)
        self.assertEqual(Puzzle([], [half, Puzzle([], [DOT] * 248)]).size, 500)
        self.great(Puzzle, [], [half, half])
        self.assertEqual(Puzzle([], [Puzzle([], [DOT] * 498)]).size, 500)
        self.great(Puzzle, [], [Puzzle([], [DOT] * 499)])

    def test_30_levels_and_31(self):
        self.assertEqual(Puzzle([1], [chain(29)]).depth, 30)
        self.great(Puzzle, [1], [chain(30)])
        self.great(Puzzle, [], [DOT, None, chain(30), DOT])
        self.assertEqual(Puzzle([], [DOT, None, chain(29), DOT]).depth, 30)

    def test_wrong_entries_come_ahead_of_bounds(self):
        self.bad([2], [DOT] * 500)
        self.bad([0, True], [chain(30)])
        self.bad([], [DOT] * 500 + [0])
        self.bad([], [0] + [DOT] * 500)
        self.bad([], [chain(30), "."])
        self.bad([], ["", chain(30)])


class Spellings(Case):
    def test_written(self):
        for made, spelling in [
            (DOT, "."), (Puzzle([1]), "1"), (Puzzle([0, 1, 0]), "01"), (Puzzle([], [DOT]), ".(.)"),
            (Puzzle([1], [DOT]), "1(.)"), (Puzzle([1, 1], [None, Puzzle([0, 1])]), "11(-,01)"),
            (Puzzle([], [None, None, DOT, None]), ".(-,-,.)"), (Puzzle([1], [None]), "1"),
            (Puzzle([1, 0, 1], [Puzzle([], [Puzzle([1]), None, DOT]), DOT]), "101(.(1,-,.),.)"), (chain(3, [1]), "1(1(1))"),
        ]:
            self.assertEqual(made.spelling, spelling)
            self.assertEqual(read_puzzle(spelling).spelling, spelling)

    def test_zeros_and_dashes_at_the_ends(self):
        for text, spelling in [("0", "."), ("00(-)", "."), (".", "."), (".(-,-)", "."), ("0(-)", "."), ("10", "1"),
                               ("0100", "01"), ("10(.,-)", "1(.)"), ("1(-,.,-,-)", "1(-,.)"), ("1(0)", "1(.)"),
                               ("0(00(-),-)", ".(.)"), ("1(1(-),10(0,-))", "1(1,1(.))"), ("0(0(0(0(-))))", ".(.(.(.)))"),
                               ("1" + "0" * 3000, "1"), ("1(" + "-," * 3000 + "-)", "1")]:
            self.assertEqual(read_puzzle(text).spelling, spelling)
            self.assertTrue(is_spelling(text))
        self.assertEqual(read_puzzle("00(-)").bits, ())
        self.assertEqual(read_puzzle("00(-)").children, ())

    def test_wrong_strings(self):
        for text in ["", "-", "()", "1()", ".()", "0()", "1(,)", "1(.,)", "1(,.)", "1(.,,.)", "(1)", "(.)", "1)", "1(", "1(.",
                     "1(.))", "1(.)(.)", "1(.)1", "1(.).", ".1", "1.", "..", "0.", "--", "1-", "-1", "1(-1)", "1(1-)", "1(--)",
                     "1(.-)", "1(-.)", "-(.)", "1(-(.))", "1,1", "1,", ",", ")", "(", "1(.),", "1(.),1", "-,-", "1 ", " 1",
                     "1( .)", "1(. )", "1(.,\n.)", "1\n", "\n1", "2", "1(2)", "a", "1(a)", "-1(.)", "+1", "1_1", "\u0661",
                     "\u00b9", "\uff11", "1(.]", "[.]", "1(.;.)", "None", "1(.()", "1((.))", "1((.),.)", "1(.)-", "1(-)-",
                     "1(-)(-)", "hn", "h", "n", "1(n)", "\x00", "1(.(.)", "1(.(.)))", "\u2024", "1\t(.)"]:
            self.wrong(text)

    def test_all_short_strings(self):
        for many in range(6):
            for signs in itertools.product("10.(,)-", repeat=many):
                text = "".join(signs)
                if is_spelling(text):
                    self.assertTrue(is_spelling(read_puzzle(text).spelling))
                else:
                    self.wrong(text)

    def test_spellings_with_one_change(self):
        dice = random.Random(3)
        for _ in range(60):
            text = random_puzzle(dice, 3).spelling
            for at in range(len(text)):
                for sign in ["", *"01.,()- "]:
                    for changed in (text[:at] + sign + text[at + 1:], text[:at] + sign + text[at:]):
                        if is_spelling(changed):
                            read_puzzle(changed)
                        else:
                            self.wrong(changed)

    def test_random_puzzles_are_read_back(self):
        dice = random.Random(4)
        for _ in range(300):
            made = random_puzzle(dice)
            again = read_puzzle(made.spelling)
            self.assertTrue(again == made)
            self.assertEqual((again.bits, again.size, again.depth, again.paths()),
                             (made.bits, made.size, made.depth, made.paths()))
            for path in made.paths():
                self.assertEqual(again[path].bits, made[path].bits)
                self.assertEqual(again[path].children, made[path].children)

    def test_wrong_strings_however_deep(self):
        for deep in (31, 32, 600, 20000):
            whole = ".(" * deep + "." + ")" * deep
            for text in ["(" * deep, ".(" * deep, whole[:-1], whole + ")", ".(" * deep + ")" * deep, whole + "x",
                         "x" + whole, whole + ".", "-" + whole]:
                with self.assertRaises(BadText) as told:
                    read_puzzle(text)
                self.assertEqual(told.exception.line, 1)
        self.wrong("1(" + "1," * 600 + ")")
        self.wrong("1(" + "1," * 600 + "1")
        self.wrong("1(" + "1," * 600 + "1)1")

    def test_too_many_levels(self):
        for many in (1, 2, 29, 30):
            self.assertEqual(read_puzzle("1(" * (many - 1) + "." + ")" * (many - 1)).depth, many)
        for many in (31, 32, 500, 20000):
            self.great(read_puzzle, "1(" * (many - 1) + "." + ")" * (many - 1))
        # A dash is no node, so it makes no level.
        self.assertEqual(read_puzzle("1(" * 30 + "-" + ")" * 30).depth, 30)
        self.great(read_puzzle, "1(" * 31 + "-" + ")" * 31)
        self.great(read_puzzle, ".(-,.," + "0(" * 29 + "0" + ")" * 29 + ",-)")
        self.assertEqual(read_puzzle(".(-,.," + "0(" * 28 + "0" + ")" * 28 + ",-)").depth, 30)

    def test_too_many_nodes(self):
        self.assertEqual(read_puzzle("1(" + ",".join(["."] * 499) + ")").size, 500)
        self.great(read_puzzle, "1(" + ",".join(["."] * 500) + ")")
        self.great(read_puzzle, "1(" + ",".join(["0(-)"] * 500) + ")")
        self.assertEqual(read_puzzle("1(" + ",".join(["0(-),-"] * 499) + ")").size, 500)
        self.great(read_puzzle, "1(" + ",".join([".(.,.,.,.)"] * 100) + ")")
        self.assertEqual(read_puzzle("1(" + ",".join(["-"] * 600) + ",1)").size, 2)
        self.assertEqual(read_puzzle("1" * 6000).size, 1)


class Paths(Case):
    def test_all_paths_in_order(self):
        for text, paths in [(".", [()]), ("1(.)", [(), (0,)]), ("1(-,.)", [(), (1,)]), ("1(.,.)", [(), (0,), (1,)]),
                            ("1(.(-,1),-,0(.(.)))", [(), (0,), (0, 1), (2,), (2, 0), (2, 0, 0)]),
                            (".(-,.(.,.),1(.,-,.))", [(), (1,), (1, 0), (1, 1), (2,), (2, 0), (2, 2)])]:
            self.assertEqual(read_puzzle(text).paths(), paths)
        wide = Puzzle([], [DOT] * 12)
        self.assertEqual(wide.paths(), [()] + [(number,) for number in range(12)])
        self.assertEqual(chain(30).paths(), [(0,) * many for many in range(30)])

    def test_each_list_of_paths_is_new(self):
        made = read_puzzle("1(.)")
        made.paths().clear()
        first = made.paths()
        first.append("x")
        self.assertEqual(made.paths(), [(), (0,)])
        self.assertEqual((0,) in made, True)

    def test_whether_there_is_a_node(self):
        made = read_puzzle("1(.(-,1),-,0(.))")
        for path in [(), (0,), (0, 1), (2,), (2, 0)]:
            self.assertIs(path in made, True)
        for path in [(1,), (3,), (-1,), (-3,), (-2,), (0, 0), (0, -1), (0, 2), (-1, 0), (2, -1), (2, 1), (2, 0, 0),
                     (1, 0), (3, 0), (0, 1, 0), (0, 1, -1), (10 ** 30,), (-10 ** 30,), (0, 10 ** 30), (-1,) * 40, (0,) * 40,
                     (2, 0, -1)]:
            self.assertIs(path in made, False)
            self.assertIs(path not in made, True)
            self.none_at(path, lambda: made[path])

    def test_the_puzzle_at_a_path(self):
        made = read_puzzle("1(.(-,1),-,01(.))")
        for path, spelling in [((), "1(.(-,1),-,01(.))"), ((0,), ".(-,1)"), ((0, 1), "1"), ((2,), "01(.)"), ((2, 0), ".")]:
            self.assertEqual(made[path].spelling, spelling)
            self.assertTrue(made[path] == read_puzzle(spelling))
        self.assertIs(made[(0, 1)], made.children[0].children[1])

    def test_it_is_not_iterated_over(self):
        for made in (DOT, read_puzzle("11(.,.)")):
            for use in (iter, list, tuple, set):
                with self.assertRaises(TypeError):
                    use(made)


class Replacing(Case):
    def test_bits(self):
        made = read_puzzle("1(.(-,1),-,01(.))")
        for path, bits, spelling in [
            ((), [], ".(.(-,1),-,01(.))"), ((), [0, 1, 1, 0], "011(.(-,1),-,01(.))"), ((0,), (1,), "1(1(-,1),-,01(.))"),
            ((0, 1), [0, 0], "1(.(-,.),-,01(.))"), ((2,), [1], "1(.(-,1),-,1(.))"), ((2, 0), [1, 0, 1], "1(.(-,1),-,01(101))"),
        ]:
            self.assertEqual(made.with_bits(path, bits).spelling, spelling)
            self.assertEqual(made.with_bits(path=path, bits=tuple(bits)).spelling, spelling)
            self.assertEqual(made.spelling, "1(.(-,1),-,01(.))")
            self.assertEqual(made[path].bits, read_puzzle("1(.(-,1),-,01(.))")[path].bits)

    def test_children(self):
        made = read_puzzle("1(.(-,1),-,01(.))")
        new = read_puzzle("11(-,.)")
        for path, number, child, spelling in [
            ((), 0, new, "1(11(-,.),-,01(.))"), ((), 1, new, "1(.(-,1),11(-,.),01(.))"), ((), 2, None, "1(.(-,1))"),
            ((), 0, None, "1(-,-,01(.))"), ((), 1, None, "1(.(-,1),-,01(.))"), ((), 3, new, "1(.(-,1),-,01(.),11(-,.))"),
            ((), 5, new, "1(.(-,1),-,01(.),-,-,11(-,.))"), ((), 5, None, "1(.(-,1),-,01(.))"), ((0,), 1, None, "1(.,-,01(.))"),
            ((0,), 0, DOT, "1(.(.,1),-,01(.))"), ((0, 1), 0, DOT, "1(.(-,1(.)),-,01(.))"),
            ((0, 1), 2, new, "1(.(-,1(-,-,11(-,.))),-,01(.))"), ((2, 0), 1, DOT, "1(.(-,1),-,01(.(-,.)))"),
            ((2,), 0, None, "1(.(-,1),-,01)"), ((2,), 10 ** 30, None, "1(.(-,1),-,01(.))"),
        ]:
            self.assertEqual(made.with_child(path, number, child).spelling, spelling)
            self.assertEqual(made.with_child(path=path, number=number, child=child).spelling, spelling)
            self.assertEqual(made.spelling, "1(.(-,1),-,01(.))")
        self.assertEqual(made.paths(), [(), (0,), (0, 1), (2,), (2, 0)])
        self.assertEqual(len(made.children), 3)
        far = DOT.with_child((), 3000, new)
        self.assertEqual((far.children[:3000], far.children[3000], len(far.children)), ((None,) * 3000, new, 3001))

    def test_a_puzzle_as_its_own_child(self):
        made = read_puzzle("1(.,1)")
        self.assertEqual(made.with_child((1,), 0, made).spelling, "1(.,1(1(.,1)))")
        self.assertEqual(made.spelling, "1(.,1)")

    def test_paths_that_are_not_there(self):
        made = read_puzzle("1(.(-,1),-,01(.))")
        for path in [(1,), (3,), (-1,), (-3,), (0, 0), (0, -1), (0, 2), (1, 0), (2, 0, 0), (10 ** 30,)]:
            self.none_at(path, made.with_bits, path, [1])
            self.none_at(path, made.with_child, path, 0, DOT)
            self.none_at(path, made.with_child, path, 0, None)

    def test_no_such_node_comes_first(self):
        made = Puzzle([], [DOT] * 499)
        for path in [(499,), (-1,), (0, 0)]:
            self.none_at(path, made.with_bits, path, [2])
            self.none_at(path, made.with_child, path, 0, 0)
            self.none_at(path, made.with_child, path, 0, DOT)
        self.none_at((0,) * 30, chain(30).with_child, (0,) * 30, 0, DOT)

    def test_wrong_bits_and_children(self):
        made = read_puzzle("1(.(-,1))")
        for path in made.paths():
            for worth in NO_BITS:
                with self.assertRaises(BadPuzzle):
                    made.with_bits(path, [1, worth])
            for worth in NO_CHILDREN:
                for number in (0, 1, 4):
                    with self.assertRaises(BadPuzzle):
                        made.with_child(path, number, worth)
        for full in (Puzzle([], [DOT] * 499), chain(30)):
            with self.assertRaises(BadPuzzle):
                full.with_child((0,), 1, "x")
            with self.assertRaises(BadPuzzle):
                full.with_bits((0,), ["1"])

    def test_bounds(self):
        wide = Puzzle([], [DOT] * 498)
        full = wide.with_child((7,), 3, DOT)
        self.assertEqual((full.size, full[(7,)].spelling), (500, ".(-,-,-,.)"))
        self.great(wide.with_child, (7,), 3, Puzzle([], [DOT]))
        self.great(full.with_child, (), 498, DOT)
        self.great(full.with_child, (7, 3), 0, DOT)
        self.assertEqual(full.with_child((), 0, Puzzle([1, 1])).size, 500)
        self.assertEqual(full.with_child((), 7, None).size, 498)
        self.assertEqual(full.with_bits((7, 3), [1]).size, 500)
        deep = chain(29)
        self.assertEqual(deep.with_child((0,) * 28, 0, DOT).depth, 30)
        self.great(deep.with_child, (0,) * 28, 0, chain(2))
        self.great(deep.with_child, (0,) * 27, 1, chain(3))
        self.assertEqual(deep.with_child((0,) * 27, 1, chain(2)).depth, 30)
        self.great(chain(30).with_child, (0,) * 29, 0, DOT)
        self.assertEqual(chain(30).with_bits((0,) * 29, [1]).depth, 30)

    def test_random_changes(self):
        dice = random.Random(5)
        for _ in range(300):
            made = random_puzzle(dice)
            elder = made.spelling
            path = dice.choice(made.paths())
            number, child = dice.randrange(6), dice.choice([None, random_puzzle(dice, 2)])
            bits = [dice.randrange(2) for _ in range(dice.randrange(4))]
            self.assertEqual(made.with_child(path, number, child), self.replaced(made, path, None, number, child))
            self.assertEqual(made.with_bits(path, bits), self.replaced(made, path, bits, None, None))
            self.assertEqual(made.spelling, elder)

    def replaced(self, made, path, bits, number, child, here=()):
        """The puzzle made anew, node by node."""
        at = node_at(made, here)
        children = [one if one is None else self.replaced(made, path, bits, number, child, (*here, place))
                    for place, one in enumerate(at.children)]
        if here != path:
            return Puzzle(at.bits, children)
        if number is not None:
            children += [None] * (number + 1)
            children[number] = child
        return Puzzle(at.bits if bits is None else bits, children)


class Order(Case):
    def test_equal_if_the_spellings_are(self):
        made = small_puzzles(2)
        for one in made:
            for other in made:
                self.assertIs(one == other, one.spelling == other.spelling)
                self.assertIs(one != other, one.spelling != other.spelling)
        self.assertTrue(Puzzle([1, 0], [DOT, None]) == Puzzle((1,), (Puzzle([0]),)))
        self.assertFalse(Puzzle([1]) == Puzzle([0, 1]))
        self.assertFalse(Puzzle([], [None, DOT]) == Puzzle([], [DOT]))

    def test_not_equal_to_what_is_no_puzzle(self):
        class Other:
            spelling = "."

        for other in (".", None, 1, (), [], {}, Other(), Puzzle, True):
            self.assertIs(DOT == other, False)
            self.assertIs(DOT != other, True)
            self.assertIs(other == DOT, False)

    def test_before(self):
        spellings = [".", "01", "1", "11", "111"]
        pairs = [(read_puzzle(one), read_puzzle(other)) for one, other in zip(spellings, spellings[1:])]
        # Fewer nodes come first, whatever the spellings are.
        pairs.append((Puzzle([1, 1, 1]), Puzzle([], [DOT])))
        pairs.append((read_puzzle("1(1)"), read_puzzle(".(.,.)")))
        pairs.append((read_puzzle("1(1,1)"), read_puzzle(".(.(.(.)))")))
        # Among as many, the spelling is compared as a string: ( ) , - . 0 1.
        for one, other in [(".(-,.)", ".(.)"), (".(.(.))", ".(.,.)"), ("1(.)", "11(-,.)"), (".(1)", "1(.)"),
                           ("1(-,-,.)", "1(-,.)"), (".(1(.))", ".(1,.)"), (".(.)", "01(.)"), ("1(.,1)", "1(1,.)")]:
            pairs.append((read_puzzle(one), read_puzzle(other)))
        for one, other in pairs:
            self.assertIs(one.before(other), True, (one.spelling, other.spelling))
            self.assertIs(other.before(one), False, (one.spelling, other.spelling))
            self.assertIs(one.before(one), False)
        self.assertIs(Puzzle([1]).before(other=Puzzle([1, 0])), False)

    def test_before_over_all_small_puzzles(self):
        made = small_puzzles(2)
        for one in made:
            for other in made:
                told = one.size < other.size or (one.size == other.size and one.spelling < other.spelling)
                self.assertIs(one.before(other), told)


class Interface(Case):
    def test_examples(self):
        small = Puzzle([1], [Puzzle()])
        self.assertEqual([Puzzle([1, 0, 1, 0], [None, Puzzle(), None]).spelling, small.paths(), (0, 0) in small],
                         ["101(-,.)", [(), (0,)], False])
        self.assertEqual([read_puzzle("10(.,-)") == small, small.with_child((0,), 1, Puzzle([1])).spelling],
                         [True, "1(.(-,1))"])

    def test_names_and_places(self):
        self.assertEqual([Puzzle.__module__, read_puzzle.__module__], ["tryback.puzzles"] * 2)
        self.assertTrue(inspect.isclass(puzzles.Puzzle))
        for name in ("__init__", "paths", "before", "with_bits", "with_child", "__contains__", "__getitem__", "__eq__"):
            self.assertIn(name, vars(Puzzle))
        signature = inspect.signature(Puzzle)
        self.assertEqual([(one.name, one.default) for one in signature.parameters.values()],
                         [("bits", ()), ("children", ())])
        self.assertEqual(list(inspect.signature(read_puzzle).parameters), ["text"])
        self.assertTrue(read_puzzle(text="1") == Puzzle(bits=[1]))


if __name__ == "__main__":
    unittest.main()
