import inspect
import unittest
from itertools import product

from runnets import certificates
from runnets.certificates import (certify_adding, certify_alike, certify_fault, certify_join, certify_kind, certify_least,
                                  certify_right, certify_spare)
from runnets.checker import accepts
from runnets.errors import (InvalidFault, InvalidKind, InvalidNet, InvalidNumber, InvalidTable, InvalidWishes, NotRight,
                            NotRunning, TooLong)
from runnets.faults import faulty
from runnets.kinds import form_of
from runnets.rights import running_wishes
from tests.right_samples import HEAVY, changed_ladders, halves_nets, right_nets, stretch_word, wished_nets
from tests.samples import (ALIKE, BACK, BARE, CHAIN, CROSSED, DOUBLING, FOUR, IDLE, KINDS, PAIR, THREE, TWICE, WIDE, caught,
                           doubled, drawn_nets, form, ladder_nets, small_nets, wires, word)
from tests.table_samples import (AFTER, NEITHER, ODD, WRONG_BESIDE, all_tables, associative, big_joins, check_errors,
                                 drawn_tables, kinds_held)

BOTH, WISHES3 = ((0, 0), (0, 1)), ((0, 0), (0, 1), (0, 2))
ROW3, BACK3 = (3, ((0, 1), (3, 2)), (0, 3, 4)), (3, ((1, 0), (3, 2)), (0, 3, 4))
TWIN3 = (3, ((0, 1), (1, 2), (3, 4)), (0, 3, 5))
DOUBLES = (4, ((0, 1), (1, 2), (2, 3), (0, 5), (4, 6)), (0, 4, 7, 8))
ERRORS = {"net": InvalidNet, "other": InvalidNet, "wishes": InvalidWishes, "kind": InvalidKind, "fault": InvalidFault,
          "table": InvalidTable, "places": InvalidNumber, "depth": InvalidNumber}
# Papers that some claim of few places may have.
PAPERS = [(), None, 0, 1, 2, 3, *product(range(3), repeat=3), *product(range(2), product(range(4), repeat=2)),
          *product(range(3), product(range(3), repeat=3)), *product(product((0, 1), repeat=2), repeat=2),
          *product(product((0, 1), repeat=3), repeat=2)]


class Certified(unittest.TestCase):
    def check(self, told, so, words, parts):
        """The claim that is so, with a paper that is accepted; the other one has none."""
        self.assertEqual((type(told), len(told)), (tuple, 2))
        claim, paper = told
        self.assertEqual((type(claim), claim), (tuple, (words[not so], *parts)))
        self.assertIs(accepts(claim, paper), True, told)
        if so:
            self.assertEqual((type(paper), paper), (tuple, ()))
        against = (words[so], *parts)
        for held in [paper, (), 0, 1]:
            self.assertIs(accepts(against, held), False, (against, held))

    def never_both(self, told, words):
        against = (words[1 - words.index(told[0][0])], *told[0][1:])
        self.assertEqual([paper for paper in PAPERS if accepts(against, paper)], [], against)


class ShownExamples(unittest.TestCase):
    def test_shown(self):
        shown = [certify_right(PAIR, BOTH, "any"), certify_right(TWICE, BOTH, "any")[0][0],
                 certify_alike(TWICE, PAIR, "first")[0][0], certify_alike(TWICE, PAIR, "any")[1], certify_join(AFTER),
                 certify_kind(AFTER, "first")]
        self.assertEqual(shown, [(('right', (2, ((0, 1),), (0, 2)), ((0, 0), (0, 1)), 'any'), ()), 'wrong', 'alike', 1,
                                 (('join', ((0, 1, 2), (1, 1, 2), (2, 1, 2))), ()),
                                 (('lacks kind', ((0, 1, 2), (1, 1, 2), (2, 1, 2)), 'first'), ())])
        shown = [certify_adding(TWIN3)[0][0], certify_adding(BACK3)[0][0],
                 certify_fault(ROW3, WISHES3, "any", (0, "first"))[0][0],
                 certify_fault(ROW3, WISHES3, "even", (0, "turned"))[1], certify_spare(DOUBLES)[0][2:], certify_least(4, 2)[0],
                 certify_least(5, 2)]
        self.assertEqual(shown, ['adds', 'miscarries', 'harmful', (), (1, 0, 0), ('least joins', 4, 2, 4),
                                 (('no net', 5, 2), ())])


class Shapes(unittest.TestCase):
    def test_names_of_arguments(self):
        for call, names in [(certify_right, ["net", "wishes", "kind"]), (certify_alike, ["net", "other", "kind"]),
                            (certify_join, ["table"]), (certify_kind, ["table", "kind"]), (certify_adding, ["net"]),
                            (certify_fault, ["net", "wishes", "kind", "fault"]), (certify_spare, ["net"]),
                            (certify_least, ["places", "depth"])]:
            self.assertEqual(list(inspect.signature(call).parameters), names)
            self.assertEqual(call.__module__, certificates.__name__)

    def test_by_name(self):
        self.assertEqual(certify_right(kind="any", wishes=BOTH, net=PAIR), (("right", PAIR, BOTH, "any"), ()))
        self.assertEqual(certify_alike(kind=2, other=PAIR, net=BACK), (("alike", BACK, PAIR, 2), ()))
        self.assertEqual([certify_join(table=ODD), certify_adding(net=PAIR)], [(("join", ODD), ()), (("adds", PAIR), ())])
        self.assertEqual(certify_kind(kind=2, table=ODD), (("has kind", ODD, 2), ()))
        self.assertEqual(certify_fault(fault=(0, "turned"), kind=2, wishes=BOTH, net=PAIR),
                         (("harmless", PAIR, BOTH, 2, (0, "turned")), ()))
        self.assertEqual(certify_spare(net=IDLE), (("spare", IDLE, 1, 0, 0), ()))
        self.assertEqual(certify_least(depth=0, places=1), (("least joins", 1, 0, 0), BARE))


class Rights(Certified):
    words = ("right", "wrong")

    def test_nets(self):
        met = {True: 0, False: 0}
        pairs = wished_nets()[::3] + [(net, running_wishes(net[0])) for net in changed_ladders()]
        for kind in KINDS:
            for net, wishes in pairs:
                so = all([form(word(net, end), net[0], kind) == form(stretch_word(wish), net[0], kind)
                          for end, wish in zip(net[2], wishes)])
                self.check(certify_right(net, wishes, kind), so, self.words, (net, wishes, kind))
                met[so] += 1
        self.assertTrue(met[True] > 200 and met[False] > 200, met)

    def test_never_both(self):
        for kind in KINDS:
            for net in (PAIR, BACK, TWICE, IDLE, ROW3, BACK3, TWIN3):
                self.never_both(certify_right(net, running_wishes(net[0]), kind), self.words)

    def test_long_words(self):
        for kind in KINDS:
            so = kind in (3, 5, 7, "first", "last", "sets", "ends")
            self.check(certify_right(DOUBLING, ((0, 0),), kind), so, self.words, (DOUBLING, ((0, 0),), kind))
            self.check(certify_right(CROSSED, BOTH, kind), kind == "sets", self.words, (CROSSED, BOTH, kind))
            self.check(certify_right(HEAVY, BOTH, kind), True, self.words, (HEAVY, BOTH, kind))

    def test_errors(self):
        check_errors(self, certify_right, {"net": PAIR, "wishes": BOTH, "kind": "any"}, ERRORS)
        check_errors(self, certify_right, {"net": BACK, "wishes": BOTH, "kind": 3}, ERRORS)


class Alikes(Certified):
    words = ("alike", "unlike")

    def test_nets(self):
        met = {True: 0, False: 0}
        nets = [net for net in small_nets() if net[0] == 2 and len(net[1]) == 2][::3]
        for kind in KINDS:
            for net, other in product(nets, repeat=2):
                so = all([form_of(net, one, kind) == form_of(other, two, kind) for one, two in zip(net[2], other[2])])
                told = certify_alike(net, other, kind)
                self.check(told, so, self.words, (net, other, kind))
                met[so] += 1
                self.assertIs(accepts(certify_alike(other, net, kind)[0], told[1]), True)
        self.assertTrue(met[True] > 100 and met[False] > 100, met)

    def test_never_both(self):
        for kind in KINDS:
            for net, other in product((PAIR, BACK, TWICE, IDLE), repeat=2):
                self.never_both(certify_alike(net, other, kind), self.words)

    def test_long_words(self):
        half = (1, DOUBLING[1], (59,))
        for kind in KINDS[1:]:
            so = kind in (2, 4, 8, "first", "last", "sets", "ends")
            self.check(certify_alike(DOUBLING, half, kind), so, self.words, (DOUBLING, half, kind))
        for net, other, long in [(DOUBLING, half, 2 ** 60), (half, DOUBLING, 2 ** 59), (doubled(401), doubled(401), 401)]:
            error = caught(certify_alike, net, other, "any")
            self.assertEqual((type(error), error.given), (TooLong, long))
        self.assertEqual(certify_alike(doubled(400), doubled(400), "any")[1], ())

    def test_errors(self):
        right = {"net": PAIR, "other": BACK, "kind": "any"}
        check_errors(self, certify_alike, right, ERRORS)
        for other in WRONG_BESIDE:
            error = caught(certify_alike, PAIR, other, "any")
            self.assertIs(type(error), InvalidNet)
            self.assertIs(error.given, other)


class Tables(Certified):
    def test_joins(self):
        met = {True: 0, False: 0}
        for table in [*all_tables(1), *all_tables(2), *all_tables(3)[::29], *drawn_tables(), *big_joins()]:
            so = associative(table)
            told = certify_join(table)
            self.check(told, so, ("join", "no join"), (table,))
            if len(table) < 4:
                self.never_both(told, ("join", "no join"))
            met[so] += 1
        self.assertTrue(met[True] > 100 and met[False] > 100, met)

    def test_kinds(self):
        met = {True: 0, False: 0}
        for table in [*all_tables(1), *all_tables(2), *all_tables(3)[::97], *drawn_tables(12), *big_joins()[::7], NEITHER]:
            held = kinds_held(table)
            for kind in KINDS:
                claim, paper = certify_kind(table, kind)
                self.assertEqual(claim, ("has kind" if kind in held else "lacks kind", table, kind))
                self.assertEqual((type(paper), paper), (tuple, ()))
                self.assertIs(accepts(claim, paper), True)
                self.assertIs(accepts(("lacks kind" if kind in held else "has kind", table, kind), paper), False)
                met[kind in held] += 1
        self.assertTrue(met[True] > 100 and met[False] > 100, met)

    def test_errors(self):
        for table in (ODD, NEITHER):
            check_errors(self, certify_join, {"table": table}, ERRORS)
            check_errors(self, certify_kind, {"table": table, "kind": "sets"}, ERRORS)
            check_errors(self, certify_kind, {"table": table, "kind": 7}, ERRORS)


class Adding(Certified):
    words = ("adds", "miscarries")

    def test_nets(self):
        met = {True: 0, False: 0}
        nets = [*ladder_nets(), *halves_nets(), *changed_ladders(), *right_nets(40), PAIR, BACK, TWICE, IDLE, TWIN3, BACK3]
        for net in small_nets()[::5]:
            nets += [(net[0], net[1], ends) for ends in list(product(wires(net), repeat=net[0]))[::7]]
        for net in nets:
            so = all([form(word(net, end), net[0], "last") == tuple(range(at + 1)) for at, end in enumerate(net[2])])
            told = certify_adding(net)
            self.check(told, so, self.words, (net,))
            met[so] += 1
            if net[0] < 4:
                self.never_both(told, self.words)
        self.assertTrue(met[True] > 50 and met[False] > 50, met)

    def test_long_words(self):
        self.check(certify_adding(DOUBLING), True, self.words, (DOUBLING,))
        crossed = (12, CROSSED[1], (71,) * 12)
        self.check(certify_adding(crossed), False, self.words, (crossed,))

    def test_errors(self):
        check_errors(self, certify_adding, {"net": PAIR}, ERRORS)
        for net in (ALIKE, WIDE, CHAIN, (2, ((0, 1),), (0, 2, 2))):
            self.assertIs(type(caught(certify_adding, net)), NotRunning)


class Faults(Certified):
    words = ("harmless", "harmful")

    def test_nets(self):
        met = {True: 0, False: 0}
        pairs = [(net, running_wishes(net[0])) for net in (PAIR, BACK, TWICE, IDLE, ROW3, TWIN3, FOUR, *changed_ladders()[:3])]
        for net, wishes in pairs + [(PAIR, ((1, 1), (0, 0))), ((2, ((0, 1), (2, 1)), (3,)), ((0, 1),))]:
            faults = [(box, way) for box in range(len(net[1])) for way in ("first", "second", "turned")]
            faults += [(box, side, wire) for box in range(len(net[1])) for side in (0, 1) for wire in (0, net[0] + box - 1)]
            for kind, fault in product(KINDS, faults):
                changed = faulty(net, fault)
                so = all([form(word(changed, end), net[0], kind) == form(stretch_word(wish), net[0], kind)
                          for end, wish in zip(changed[2], wishes)])
                told = certify_fault(net, wishes, kind, fault)
                self.check(told, so, self.words, (net, wishes, kind, fault))
                met[so] += 1
        self.assertTrue(met[True] > 100 and met[False] > 100, met)

    def test_errors(self):
        right = {"net": PAIR, "wishes": BOTH, "kind": "any", "fault": (0, "first")}
        check_errors(self, certify_fault, right, ERRORS)
        check_errors(self, certify_fault, {**right, "net": BACK, "kind": 2, "fault": (0, 1, 1)}, ERRORS)


class Numbers(unittest.TestCase):
    def test_spare(self):
        for net in [PAIR, FOUR, IDLE, HEAVY, DOUBLES, BARE, *ladder_nets(), *halves_nets(), *right_nets()]:
            claim, paper = certify_spare(net)
            self.assertEqual((type(claim), len(claim), claim[:2]), (tuple, 5, ("spare", net)))
            self.assertEqual((type(paper), paper), (tuple, ()))
            self.assertIs(accepts(claim, paper), True)
            for at in (2, 3, 4):
                self.assertIs(accepts((*claim[:at], claim[at] + 1, *claim[at + 1:]), paper), False)

    def test_spare_errors(self):
        check_errors(self, certify_spare, {"net": PAIR}, ERRORS)
        for net in (ALIKE, WIDE, CHAIN):
            self.assertIs(type(caught(certify_spare, net)), NotRunning)
        for net in (BACK, TWICE, DOUBLING, TWIN3):
            self.assertIs(type(caught(certify_spare, net)), NotRight)

    def test_least(self):
        for places in range(1, 13):
            for depth in range(61):
                claim, paper = certify_least(places, depth)
                self.assertIs(accepts(claim, paper), True, (places, depth))
                if 2 ** depth < places:
                    self.assertEqual((claim, paper), (("no net", places, depth), ()))
                    for number in range(25):
                        self.assertIs(accepts(("least joins", places, depth, number), THREE), False)
                else:
                    self.assertEqual(claim, ("least joins", places, depth, len(paper[1])))
                    self.assertIs(accepts(("no net", places, depth), ()), False)

    def test_least_errors(self):
        for places, depth in ((12, 60), (1, 0), (9, 3)):
            check_errors(self, certify_least, {"places": places, "depth": depth}, ERRORS)


class Papers(unittest.TestCase):
    def test_all_are_accepted(self):
        for net in drawn_nets():
            wishes = ((0, 0),) * len(net[2])
            for kind in KINDS:
                self.assertIs(accepts(*certify_right(net, wishes, kind)), True)
                if net[1]:
                    self.assertIs(accepts(*certify_fault(net, wishes, kind, (0, "turned"))), True)
            running = (net[0], net[1], (net[2] * 12)[:net[0]])
            self.assertIs(accepts(*certify_adding(running)), True)


if __name__ == "__main__":
    unittest.main()
