import inspect
import unittest
from itertools import product

from runnets import checker
from runnets.bounds import spare
from runnets.checker import accepts
from runnets.faults import faulty
from runnets.kinds import are_alike
from runnets.ladders import ladder
from runnets.least import least_joins, least_net
from runnets.nets import depth_of, is_net, joins_of
from runnets.rights import is_right, running_wishes, settling_table, test_rows
from runnets.tables import kinds_of
from tests.right_samples import HEAVY, changed_ladders, halves_nets, right_nets, stretch_word, stretches, wished_nets
from tests.samples import (ALIKE, BACK, BARE, CHAIN, CROSSED, DOUBLING, FOUR, IDLE, KINDS, OTHERS, PAIR, THREE, TWICE, WIDE,
                           WRONG_KINDS, WRONG_NETS, Odd, doubled, drawn_nets, form, ladder_nets, small_nets, total, wires,
                           word)
from tests.table_samples import (AFTER, GREATER, NEITHER, ODD, ONE, WRONG_BESIDE, WRONG_DEPTHS, WRONG_FAULTS, WRONG_PLACES,
                                 WRONG_TABLES, WRONG_WISHES, all_tables, big_joins, drawn_tables, kinds_held)

BOTH = ((0, 0), (0, 1))
ROW3, BACK3 = (3, ((0, 1), (3, 2)), (0, 3, 4)), (3, ((1, 0), (3, 2)), (0, 3, 4))
TWIN3 = (3, ((0, 1), (1, 2), (3, 4)), (0, 3, 5))
NUMBERS = [*OTHERS, (), (0,), [0], "0", PAIR]

# For each word what its parts are; the wrong ones are for the net PAIR, the tables of two worths and the like.
PARTS = {
    "right": ("net", "wishes", "kind"), "wrong": ("net", "wishes", "kind"), "alike": ("net", "other", "kind"),
    "unlike": ("net", "other", "kind"), "join": ("table",), "no join": ("table",), "has kind": ("table", "kind"),
    "lacks kind": ("table", "kind"), "adds": ("net",), "miscarries": ("net",),
    "harmless": ("net", "wishes", "kind", "fault"), "harmful": ("net", "wishes", "kind", "fault"),
    "spare": ("net", "number", "number", "number"), "least joins": ("places", "depth", "number"),
    "no net": ("places", "depth"),
}
WRONG = {"net": WRONG_NETS, "other": WRONG_BESIDE, "wishes": [value for _, value in WRONG_WISHES], "kind": WRONG_KINDS,
         "table": WRONG_TABLES, "fault": WRONG_FAULTS, "number": NUMBERS, "places": WRONG_PLACES, "depth": WRONG_DEPTHS}

# Claims that are so, each with a paper for it.
SHOWN = [
    (("right", PAIR, BOTH, "any"), ()), (("right", BACK, BOTH, 2), ()), (("wrong", TWICE, BOTH, "any"), (1, (1, 2))),
    (("wrong", BACK, BOTH, "last"), (1, (1, 2))), (("alike", TWICE, PAIR, "first"), ()), (("alike", BACK, PAIR, 3), ()),
    (("unlike", TWICE, PAIR, "any"), 1), (("unlike", BACK, PAIR, "ends"), 1), (("join", ODD), ()), (("join", ONE), ()),
    (("no join", NEITHER), (0, 0, 1)), (("has kind", ODD, 2), ()), (("has kind", GREATER, "sets"), ()),
    (("lacks kind", ODD, 3), ()), (("lacks kind", NEITHER, "any"), ()), (("adds", PAIR), ()), (("adds", TWICE), ()),
    (("miscarries", BACK), ((1, 0), (1, 0))), (("harmless", PAIR, BOTH, "even", (0, "turned")), ()),
    (("harmless", BACK, BOTH, "any", (0, "turned")), ()), (("harmful", PAIR, BOTH, "any", (0, "first")), 1),
    (("harmful", PAIR, ((0, 1), (0, 1)), "sets", (0, 1, 0)), 0), (("spare", PAIR, 0, 0, 0), ()), (("spare", IDLE, 1, 0, 0), ()),
    (("least joins", 4, 2, 4), FOUR), (("least joins", 2, 60, 1), PAIR), (("no net", 5, 2), ()), (("no net", 2, 0), ()),
]


def nested(value):
    """The value in 14 tuples, each in the next one."""
    for _ in range(14):
        value = (value,)
    return value


# Papers of any make.
PAPERS = [*OTHERS, 0, 1, 2, -1, 24, 10 ** 399, (), (0,), (1,), (0, 0), (0, 1), (1, 0), ((),), (((),),), [()], "()", (None,),
          (0, 0, 0), (0, 0, 1), (0, (0, 0)), (1, (1, 2)), (1, [1, 2]), [1, (1, 2)], (1, (1, 2), 0), ((1, 0), (1, 0)),
          [(1, 0), (1, 0)], ([1, 0], (1, 0)), ((1, 0), (1, 0), (1, 0)), PAIR, FOUR, list(PAIR), BARE, (Odd(), Odd()), Odd(),
          (1, (Odd(), 2)), ((Odd(), 0), (1, 0)), (True, False), (1, (True, 2)), (True, (1, 2)), (0, 0, True),
          nested(0)]


class ShownExamples(unittest.TestCase):
    def test_shown(self):
        shown = [accepts(("wrong", TWICE, BOTH, "any"), (1, (1, 2))), accepts(("wrong", TWICE, BOTH, "any"), (1, (0, 0))),
                 accepts(("right", PAIR, BOTH, "any"), []), accepts(("least joins", 4, 2, 4), FOUR),
                 accepts(("least joins", 4, 3, 4), FOUR), accepts(("join", NEITHER), ())]
        self.assertEqual(shown, [True, False, False, True, False, False])


class Shapes(unittest.TestCase):
    def test_names_of_arguments(self):
        self.assertEqual(list(inspect.signature(accepts).parameters), ["claim", "paper"])
        self.assertEqual(accepts.__module__, checker.__name__)

    def test_by_name(self):
        self.assertIs(accepts(paper=(), claim=("right", PAIR, BOTH, "any")), True)
        self.assertIs(accepts(paper=[], claim=("right", PAIR, BOTH, "any")), False)

    def test_fifteen_words(self):
        self.assertEqual({claim[0] for claim, _ in SHOWN}, set(PARTS))
        self.assertEqual(len(PARTS), 15)


class Checked(unittest.TestCase):
    """Claims against plain ways to tell which papers are for them."""

    def check(self, claim, papers, fits):
        """Just the papers that fit are accepted."""
        met = 0
        for paper in papers:
            told, due = accepts(claim, paper), fits(paper)
            self.assertIs(told, due, (claim, paper))
            met += due
        return met

    def empty(self, claim, so):
        """Just () is accepted, and this if the claim is so."""
        self.check(claim, PAPERS, lambda paper: type(paper) is tuple and len(paper) == 0 and so)

    def index(self, claim, indexes, many):
        """Just these indexes are accepted."""
        papers = [paper for paper in PAPERS if type(paper) is not int]
        self.check(claim, [*papers, *range(-3, many + 3)], lambda paper: type(paper) is int and paper in indexes)


class RightAndWrong(Checked):
    def papers(self, net, kind):
        """Ends and rows of worths, some of them beyond the bounds."""
        many, size = len(net[2]), len(settling_table(kind))
        rows = list(product(range(-1, size + 1), repeat=net[0])) if net[0] < 3 and size < 5 else []
        rows += [*test_rows(kind, net[0]), (0,) * net[0], (1,) * net[0], (size,) * net[0], (1,) * (net[0] + 1), (), (1, 2)]
        rows += [list(rows[-6]), None, Odd(), (True,) + (0,) * (net[0] - 1), (None,) * net[0]]
        return [(end, row) for end in (-1, 0, many - 1, many, True, None, "0") for row in rows]

    def fits(self, net, wishes, kind, paper):
        end, row = paper
        table = settling_table(kind)
        if type(end) is not int or not 0 <= end < len(net[2]) or type(row) is not tuple or len(row) != net[0]:
            return False
        if not all([type(worth) is int and 0 <= worth < len(table) for worth in row]):
            return False
        told = [total(held, row, lambda x, y: table[x][y]) for held in (word(net, net[2][end]), stretch_word(wishes[end]))]
        return told[0] != told[1]

    def test_by_words(self):
        met, right = 0, 0
        nets = wished_nets()[::23] + [(net, running_wishes(net[0])) for net in changed_ladders()[::9]]
        nets += [(net, BOTH) for net in (PAIR, BACK, TWICE, IDLE)]
        for kind in KINDS:
            for net, wishes in nets:
                so = is_right(net, wishes, kind)
                right += so
                claim = ("wrong", net, wishes, kind)
                met += self.check(claim, self.papers(net, kind), lambda paper: self.fits(net, wishes, kind, paper))
                self.empty(("right", net, wishes, kind), so)
                self.check(claim, PAPERS[:-30], lambda paper: False)
        self.assertTrue(met > 1000 and right > 50, (met, right))

    def test_each_kind_with_both(self):
        for kind in KINDS:
            for net in (PAIR, FOUR, *ladder_nets()):
                wishes = running_wishes(net[0])
                self.assertIs(accepts(("right", net, wishes, kind), ()), True)
                for end, row in product(range(net[0]), test_rows(kind, net[0])):
                    self.assertIs(accepts(("wrong", net, wishes, kind), (end, row)), False)
            lacking = (2, (), (0, 0))
            self.assertIs(accepts(("right", lacking, BOTH, kind), ()), False)
            self.assertIs(accepts(("wrong", lacking, BOTH, kind), (1, (0, 1))), True)
            self.assertIs(accepts(("wrong", lacking, BOTH, kind), (0, (0, 1))), False)
            self.assertIs(accepts(("wrong", lacking, BOTH, kind), (1, (0, 0))), False)

    def test_long_words(self):
        for kind in KINDS:
            so = kind in (3, 5, 7, "first", "last", "sets", "ends")
            self.empty(("right", DOUBLING, ((0, 0),), kind), so)
            table = settling_table(kind)
            for worth in range(len(table)):
                # 2 ** 60 leaves 736 by 840, which is a multiple of each number from 2 to 8.
                due = total((0,) * (840 + 736), (worth,), lambda x, y: table[x][y]) != worth
                self.assertIs(accepts(("wrong", DOUBLING, ((0, 0),), kind), (0, (worth,))), due, (kind, worth))
        self.assertIs(accepts(("right", HEAVY, BOTH, "any"), ()), True)
        self.assertIs(accepts(("right", CROSSED, BOTH, "sets"), ()), True)
        self.assertIs(accepts(("right", CROSSED, BOTH, "any"), ()), False)


class AlikeAndUnlike(Checked):
    def test_by_words(self):
        nets = [net for net in drawn_nets(200, 4) if all([len(word(net, end)) <= 400 for end in net[2]])]
        met = {True: 0, False: 0}
        pairs = [(PAIR, PAIR), (TWICE, PAIR), (BACK, PAIR), (PAIR, IDLE), (ROW3, TWIN3), (ROW3, BACK3), (TWIN3, BACK3)]
        pairs += [(net, other) for net in nets for other in nets if (net[0], len(net[2])) == (other[0], len(other[2]))]
        for net, other in pairs[:50]:
            for kind in KINDS:
                unlike = [at for at, (one, two) in enumerate(zip(net[2], other[2]))
                          if form(word(net, one), net[0], kind) != form(word(other, two), net[0], kind)]
                met[bool(unlike)] += 1
                self.empty(("alike", net, other, kind), not unlike)
                self.index(("unlike", net, other, kind), unlike, len(net[2]))
        self.assertTrue(met[True] > 100 and met[False] > 100, met)

    def test_each_unlike_end(self):
        net, other = (3, ((0, 1), (1, 0)), (0, 3, 1, 3, 4)), (3, ((0, 1), (1, 0)), (0, 4, 2, 3, 3))
        due = {"any": [1, 2, 4], "first": [1, 2, 4], "ends": [1, 2, 4], "even": [2], 2: [2], "sets": [2]}
        for kind, unlike in due.items():
            self.index(("unlike", net, other, kind), unlike, 5)
            self.index(("unlike", other, net, kind), unlike, 5)
            self.empty(("alike", net, other, kind), False)
            self.empty(("alike", net, net, kind), True)

    def test_400_places_for_any(self):
        def net(*many):
            """One place, ends with words of so many places."""
            boxes = tuple([(k, k) for k in range(9)]) + ((8, 7), (10, 4), (11, 0))
            return (1, boxes, tuple([{1: 0, 2: 1, 256: 8, 384: 10, 400: 11, 401: 12, 512: 9}[held] for held in many]))
        for one, two in [((401,), (401,)), ((401,), (400,)), ((400,), (401,)), ((1, 512), (2, 512)), ((1, 512), (2, 1)),
                         ((1, 1), (2, 512)), ((512, 1), (512, 2))]:
            for word_of_claim in ("alike", "unlike"):
                claim = (word_of_claim, net(*one), net(*two), "any")
                self.check(claim, [*PAPERS, 0, 1, ()], lambda paper: False)
        self.empty(("alike", net(400, 1), net(400, 1), "any"), True)
        self.index(("unlike", net(400, 1), net(384, 1), "any"), [0], 2)
        self.index(("unlike", net(1, 2), net(2, 256), "any"), [0, 1], 2)
        for kind in KINDS[1:]:
            self.empty(("alike", DOUBLING, DOUBLING, kind), True)
            self.empty(("alike", net(401), net(401), kind), True)
            self.index(("unlike", net(1, 401), net(1, 400), kind), [1] if kind in ("even", 2, 3, 4, 5, 6, 7, 8) else [], 2)

    def test_longer_words_of_no_end(self):
        self.empty(("alike", HEAVY, PAIR, "any"), True)
        self.index(("unlike", HEAVY, BACK, "any"), [1], 2)


class Tables(Checked):
    def test_joins(self):
        tables = [*all_tables(1), *all_tables(2), *all_tables(3)[::41], *drawn_tables(), *big_joins()[::5]]
        met = 0
        for table in tables:
            size = len(table)
            broken = [(x, y, z) for x, y, z in product(range(size), repeat=3)
                      if table[table[x][y]][z] != table[x][table[y][z]]]
            self.empty(("join", table), not broken)
            found = self.check(("no join", table), product(range(-1, size + 1), repeat=3), lambda paper: paper in broken)
            self.assertEqual(found, len(broken))
            met += found
        self.assertGreater(met, 1000)

    def test_papers_for_no_join(self):
        papers = [paper for paper in PAPERS if paper is not PAIR]
        self.check(("no join", NEITHER), papers, lambda paper: paper is not Odd and repr(paper) == "(0, 0, 1)")
        self.check(("no join", NEITHER), [[0, 0, 1], (0, 0), (0, 0, 1, 0), (0, 0, 2), (False, 0, 1), (0, 0, True), (0, 0, "1"),
                                          (0, 0, Odd()), ((0, 0, 1),), "001", (1, 1, 1), (0, 0, -1)], lambda paper: False)

    def test_kinds(self):
        tables = [*all_tables(1), *all_tables(2), *all_tables(3)[::97], *drawn_tables(12), *big_joins()[::9]]
        tables += [settling_table(kind) for kind in KINDS]
        met = {True: 0, False: 0}
        for table in tables:
            held = kinds_held(table)
            self.assertEqual(kinds_of(table), held)
            for kind in KINDS:
                met[kind in held] += 1
                for claim, so in ((("has kind", table, kind), kind in held), (("lacks kind", table, kind), kind not in held)):
                    self.assertIs(accepts(claim, ()), so, claim)
                    self.assertIs(accepts(claim, []), False)
        self.assertTrue(met[True] > 100 and met[False] > 100, met)
        for claim, so in [(("has kind", ODD, 2), True), (("has kind", ODD, 3), False), (("lacks kind", ODD, "sets"), True),
                          (("lacks kind", ODD, "any"), False), (("lacks kind", NEITHER, "any"), True)]:
            self.empty(claim, so)


class Adding(Checked):
    def added(self, one, two):
        carry, found = 0, []
        for place in range(len(one)):
            carry = 1 if one[place] + two[place] + carry > 1 else 0
            found.append(carry)
        return found

    def told(self, net, one, two):
        found = []
        for end in net[2]:
            acting = [place for place in word(net, end) if one[place] == two[place]]
            found.append(one[acting[-1]] if acting else 0)
        return found

    def test_by_adding(self):
        nets = [PAIR, BACK, TWICE, IDLE, BARE, ROW3, BACK3, TWIN3, (2, (), (0, 0)), (2, (), (1, 0)), (3, (), (0, 1, 2))]
        for net in small_nets():
            if net[0] == 2 and len(net[1]) == 2:
                nets += [(2, net[1], ends) for ends in list(product(wires(net), repeat=2))[1::5]]
        met = {True: 0, False: 0}
        for net in nets:
            pairs = list(product(product((0, 1), repeat=net[0]), repeat=2))
            wrong = [pair for pair in pairs if self.told(net, *pair) != self.added(*pair)]
            self.check(("miscarries", net), pairs, lambda paper: paper in wrong)
            self.empty(("adds", net), not wrong)
            met[not wrong] += 1
        self.assertTrue(met[True] > 5 and met[False] > 50, met)

    def test_papers(self):
        wrong = [((1, 0), (1, 0)), ((1, 0), (1, 0))]
        self.check(("miscarries", BACK), PAPERS, lambda paper: repr(paper) == repr(wrong[0]))
        self.check(("miscarries", BACK), [[(1, 0), (1, 0)], ((1, 0), [1, 0]), ((1, 0),), ((1, 0), (1, 0, 0)), ((1,), (1,)),
                                          ((1, 0), (1, 2)), ((True, 0), (1, 0)), ((1, 0), (1, False)), ((1, 0), (1, -1)),
                                          ((1, 0), (1, 0), ()), ((1, 0), None), (Odd(), (1, 0)), ("10", "10")],
                   lambda paper: False)

    def test_as_many_ends_as_places(self):
        for net in (ALIKE, WIDE, (2, ((0, 1),), (0,)), (2, ((0, 1),), (0, 2, 2)), (1, (), (0, 0)), (2, (), (1,))):
            papers = [*PAPERS, ((1,) * net[0], (1,) * net[0]), ((1,) + (0,) * (net[0] - 1),) * 2]
            for name in ("adds", "miscarries"):
                self.check((name, net), papers, lambda paper: False)

    def test_long_words(self):
        self.empty(("adds", DOUBLING), True)
        crossed = (12, CROSSED[1], (71,) * 12)
        self.empty(("adds", crossed), False)
        self.assertIs(accepts(("miscarries", crossed), ((1,) * 12, (1,) * 12)), False)
        self.assertIs(accepts(("miscarries", crossed), ((1,) + (0,) * 11,) * 2), True)
        chain = (2, CHAIN[1], (1, 61))
        self.assertIs(accepts(("miscarries", chain), ((1, 0), (1, 0))), True)
        self.assertIs(accepts(("miscarries", chain), ((0, 0), (0, 0))), False)


class Harm(Checked):
    def test_by_words(self):
        nets = [(net, BOTH) for net in (PAIR, BACK, TWICE, IDLE)] + [(net, running_wishes(3)) for net in (ROW3, TWIN3)]
        nets += [(FOUR, running_wishes(4)), (PAIR, ((1, 1), (0, 0))), ((2, ((0, 1),), (2,)), ((0, 0),))]
        met = {True: 0, False: 0}
        for net, wishes in nets:
            faults = [(box, way) for box in range(len(net[1])) for way in ("first", "second", "turned")]
            faults += [(box, side, wire) for box in range(len(net[1])) for side in (0, 1) for wire in (0, net[0] + box - 1)]
            for kind, fault in product(KINDS, faults):
                changed = faulty(net, fault)
                harmed = [at for at, end in enumerate(changed[2])
                          if form(word(changed, end), net[0], kind) != form(stretch_word(wishes[at]), net[0], kind)]
                self.empty(("harmless", net, wishes, kind, fault), not harmed)
                self.index(("harmful", net, wishes, kind, fault), harmed, len(net[2]))
                met[not harmed] += 1
        self.assertTrue(met[True] > 100 and met[False] > 100, met)

    def test_long_words(self):
        self.empty(("harmless", DOUBLING, ((0, 0),), "sets", (59, "first")), True)
        self.index(("harmful", DOUBLING, ((0, 0),), "any", (59, "first")), [0], 1)
        self.empty(("harmless", CROSSED, BOTH, "last", (0, "turned")), True)
        self.index(("harmful", CROSSED, BOTH, "any", (0, "turned")), [1], 2)


class Spare(Checked):
    def test_right_nets(self):
        for net in [PAIR, FOUR, IDLE, HEAVY, *ladder_nets()[::3], *halves_nets(), *right_nets(60)]:
            numbers = spare(net)
            for claimed in [numbers, *product(*[(number - 1, number, number + 1) for number in numbers])]:
                self.assertIs(accepts(("spare", net, *claimed), ()), claimed == numbers, (net, claimed))
            self.empty(("spare", net, *numbers), True)
            self.empty(("spare", net, numbers[0] + 1, *numbers[1:]), False)

    def test_order(self):
        net = ladder("pairs", 8)
        self.assertEqual(spare(net), (0, 0, 1))
        for claimed in product((0, 1), repeat=3):
            self.assertIs(accepts(("spare", net, *claimed), ()), claimed == (0, 0, 1))
        for claimed in [(0, 0, True), (False, 0, 1), (0, False, 1), (0, 0, "1"), (0, 0, (1,)), (0, 0, None), (0, 0, Odd())]:
            self.assertIs(accepts(("spare", net, *claimed), ()), False)

    def test_nets_that_are_not_running_or_not_right(self):
        for net in (BACK, TWICE, DOUBLING, CHAIN, CROSSED, ALIKE, WIDE, (2, ((0, 1),), (2,)), (2, ((0, 1),), (0, 2, 2)),
                    (2, (), (0, 1)), (2, ((0, 1),), (0, 0))):
            for claimed in product(range(-1, 3), repeat=3):
                self.assertIs(accepts(("spare", net, *claimed), ()), False)


class Least(Checked):
    def papers(self):
        nets = [net for net in [*right_nets(), *ladder_nets(), *halves_nets(), *changed_ladders(), *drawn_nets()]]
        nets += [ladder(name, places) for name in ("pairs", "doubles") for places in range(1, 13)]
        return nets + [least_net(places, depth) for places in range(1, 13) for depth in range(12) if 2 ** depth >= places]

    def test_all(self):
        papers = self.papers()
        met = 0
        for places in range(1, 13):
            near = [net for net in papers if net[0] == places][::2] + papers[places::37]
            for depth in [*range(13), 59, 60]:
                joins = least_joins(places, depth)
                for number in range(-1, 2 * places + 2) if joins is None or depth < 6 else (joins - 1, joins, joins + 1):
                    held = near if number == joins else near[::9]
                    met += self.check(("least joins", places, depth, number), held, lambda net: (
                        number == joins and net[0] == places and len(net[2]) == places and joins_of(net) == number
                        and is_right(net, running_wishes(places), "any") and depth_of(net) <= depth))
                for claim in (("least joins", places, depth, joins), ("least joins", places, depth, None)):
                    self.assertIs(accepts(claim, least_net(places, depth)), joins is not None and claim[3] == joins)
                    self.assertIs(accepts(claim, ()), False)
                self.assertIs(accepts(("no net", places, depth), ()), joins is None)
                self.assertIs(accepts(("no net", places, depth), None), False)
        self.assertGreater(met, 100)

    def test_all_depths(self):
        for places in range(1, 13):
            for depth in range(61):
                joins, net = least_joins(places, depth), least_net(places, depth)
                self.assertIs(accepts(("no net", places, depth), ()), joins is None)
                if joins is not None:
                    self.assertIs(accepts(("least joins", places, depth, joins), net), True)
                    self.assertIs(accepts(("least joins", places, depth, joins + 1), net), False)
                    self.assertIs(accepts(("least joins", places, depth, joins - 1), net), False)

    def test_papers(self):
        claim = ("least joins", 4, 2, 4)
        wrong = [(4, FOUR[1], (0, 4, 6)), (4, FOUR[1], (0, 4, 6, 6)), (4, FOUR[1], (0, 4, 5, 7)), list(FOUR), (FOUR,), FOUR[1],
                 (4, ((0, 1), (2, 3), (2, 4), (4, 5)), (0, 4, 6, 7)), ladder("row", 4), (4, (*FOUR[1], (0, 1)), FOUR[2]),
                 ladder("doubles", 4), least_net(4, 3), PAIR, (), None, Odd(), (4, list(FOUR[1]), FOUR[2]), 4,
                 (4, FOUR[1], (0, 4, 6, 7, 7)), (True, (), (0,))]
        self.check(claim, [FOUR, least_net(4, 2), *wrong, *PAPERS], lambda paper: paper is FOUR or paper is not Odd
                   and is_net(paper) and paper in (FOUR, least_net(4, 2)))
        # One more box and one more of depth than the row: the depth told is that of needless boxes, too.
        self.assertIs(accepts(("least joins", 3, 2, 2), THREE), True)
        self.assertIs(accepts(("least joins", 3, 1, 2), THREE), False)
        self.assertIs(accepts(("least joins", 8, 3, 12), ladder("halves", 8)), True)
        self.assertIs(accepts(("least joins", 8, 3, 11), ladder("pairs", 8)), False)
        self.assertIs(accepts(("least joins", 8, 4, 10), ladder("halves", 8)), False)

    def test_no_net(self):
        self.empty(("no net", 5, 2), True)
        self.empty(("no net", 12, 3), True)
        self.empty(("no net", 4, 2), False)
        self.empty(("no net", 1, 0), False)


class Excluding(unittest.TestCase):
    def test_never_both(self):
        both = [("right", "wrong"), ("alike", "unlike"), ("join", "no join"), ("has kind", "lacks kind"),
                ("adds", "miscarries"), ("harmless", "harmful")]
        papers = PAPERS + [(end, row) for end in (0, 1) for row in product(range(3), repeat=2)]
        papers += list(product(product((0, 1), repeat=2), repeat=2)) + list(product((0, 1), repeat=3))
        for claim, paper in SHOWN:
            self.assertIs(accepts(claim, paper), True, claim)
            for pair in both:
                if claim[0] in pair:
                    against = (pair[1 - pair.index(claim[0])], *claim[1:])
                    self.assertEqual([held for held in papers if accepts(against, held)], [], against)
            if claim[0] == "no net":
                for number in range(25):
                    self.assertEqual([held for held in papers if accepts(("least joins", *claim[1:], number), held)], [])


class NoClaims(unittest.TestCase):
    def no(self, claim, *papers):
        for paper in ((), *papers):
            self.assertIs(accepts(claim, paper), False, (claim, paper))

    def test_whatever_it_is(self):
        for claim in [*OTHERS, *WRONG_NETS, *PAPERS, *PARTS, "right", ("right",), ((),), ("",), (None,), (Odd(),), (Odd(),) * 4,
                      ((("right",),),), {"right": 1}, nested("join")]:
            for paper in PAPERS[::4]:
                self.assertIs(accepts(claim, paper), False)

    def test_any_papers(self):
        for claim, _ in SHOWN:
            for paper in PAPERS:
                self.assertIn(accepts(claim, paper), (True, False))

    def test_elements_more_or_fewer(self):
        for claim, paper in SHOWN:
            self.assertIs(accepts(claim, paper), True, claim)
            for other in [claim[:-1], claim[:1], claim[1:], (*claim, None), (*claim, ()), (*claim, claim[-1]), claim + claim[1:],
                          list(claim), (claim,), [claim], (claim[0], claim[1:]), (claim[0], list(claim[1:])),
                          (claim, paper), str(claim), (*claim[:1], None, *claim[1:]), {claim[0]: claim[1:]}]:
                self.no(other, paper)

    def test_other_words(self):
        for claim, paper in SHOWN:
            held = claim[0]
            for name in [held.upper(), held.capitalize(), held + " ", " " + held, held.replace(" ", "_"), held.encode(), "",
                         None, 0, True, (held,), [held], Odd(), held + "s", "not " + held, "nets", "least"]:
                if type(name) is not str or name != held:
                    self.no((name, *claim[1:]), paper)

    def test_words_of_other_claims(self):
        for claim, paper in SHOWN:
            for name, parts in PARTS.items():
                if len(parts) != len(claim) - 1:
                    self.no((name, *claim[1:]), paper)

    def test_wrong_parts(self):
        for claim, paper in SHOWN:
            for at, name in enumerate(PARTS[claim[0]], 1):
                for value in WRONG[name]:
                    two = claim[1][0] == 2 if type(claim[1]) is tuple and len(claim[1]) == 3 else True
                    if two and (name != "fault" or len(claim[1][1]) == 1):
                        self.no((*claim[:at], value, *claim[at + 1:]), paper)
                self.no((*claim[:at], list(claim[at]) if type(claim[at]) is tuple else [claim[at]], *claim[at + 1:]), paper)

    def test_wishes_of_other_nets(self):
        for name in ("right", "wrong"):
            self.no((name, FOUR, BOTH, "any"), (0, (1, 0, 0, 0)), (1, (1, 0)))
            self.no((name, PAIR, ((0, 0), (0, 2)), "any"), (1, (1, 2)), (1, (1, 0)))
        for name in ("harmless", "harmful"):
            self.no((name, FOUR, BOTH, "any", (0, "first")), 0, 1)
            self.no((name, PAIR, BOTH, "any", (1, "first")), 0, 1)
            self.no((name, PAIR, BOTH, "any", (0, 0, 2)), 0, 1)

    def test_numbers_too_great(self):
        for places, depth in [(13, 60), (0, 3), (4, 61), (4, -1), (True, 0), (1, True), (1, False), (10 ** 399, 2), (2, 10 ** 399)]:
            for number in (0, 1, 3, 4, 12):
                self.no(("least joins", places, depth, number), BARE, PAIR, FOUR)
            self.no(("no net", places, depth))
        self.no(("least joins", 2, 1, True), PAIR)
        self.no(("least joins", 1, 0, False), BARE)
        self.no(("least joins", 2, 1, 10 ** 399), PAIR)
        self.no(("has kind", ODD, 10 ** 399))
        self.no(("lacks kind", ODD, 9))
        self.no(("lacks kind", ODD, True))
        self.no(("lacks kind", ((0,) * 9,) * 9, "sets"))


class Agreement(unittest.TestCase):
    def test_alike_is_what_kinds_tell(self):
        for net, other in product((PAIR, BACK, TWICE, IDLE), repeat=2):
            for kind in KINDS:
                self.assertIs(accepts(("alike", net, other, kind), ()), are_alike(net, other, kind))

    def test_rests_of_long_words(self):
        for many in (401, 841, 2 ** 50):
            net = doubled(many)
            for kind in range(2, 9):
                self.assertIs(accepts(("right", net, ((0, 0),), kind), ()), many % kind == 1)
                self.assertIs(accepts(("wrong", net, ((0, 0),), kind), (0, (1,))), many % kind != 1)

    def test_stretches(self):
        for wish in stretches(4):
            for end, held in ((0, (0, 0)), (4, (0, 1)), (5, (2, 3)), (6, (0, 2)), (7, (0, 3))):
                self.assertIs(accepts(("right", (4, FOUR[1], (end,)), (wish,), "any"), ()), wish == held)

    def test_after(self):
        self.assertIs(accepts(("has kind", AFTER, "last"), ()), True)
        self.assertIs(accepts(("lacks kind", AFTER, "first"), ()), True)


if __name__ == "__main__":
    unittest.main()
