import inspect
import unittest
from itertools import product

from runnets import rights
from runnets.errors import InvalidKind, InvalidNet, InvalidNumber, InvalidWishes
from runnets.kinds import form_of
from runnets.nets import needless, stretch_of
from runnets.rights import is_right, parting, running_wishes, settling_table, test_rows, wrong_ends
from runnets.tables import is_join, is_table, kinds_of, run
from tests.right_samples import changed_ladders, stretch_word, stretches, wished_nets
from tests.samples import (BACK, BARE, CHAIN, CROSSED, DOUBLING, FOUR, IDLE, KINDS, PAIR, THREE, TWICE, WIDE, caught,
                           doubled, form, ladder_nets, small_nets, total, wires, word)
from tests.table_samples import associative, big_joins, check_errors, kinds_held, settled

BOTH = ((0, 0), (0, 1))
ERRORS = {"net": InvalidNet, "wishes": InvalidWishes, "kind": InvalidKind, "places": InvalidNumber}
EVEN_LIKE = ("even", 2, 3, 4, 5, 6, 7, 8, "sets")
WISHED = wished_nets()


class ShownExamples(unittest.TestCase):
    def test_rights(self):
        both = running_wishes(2)
        shown = [both, is_right(PAIR, both, "any"), is_right(TWICE, both, "any"), is_right(TWICE, both, "last"),
                 is_right(BACK, both, 3), is_right(BACK, both, "sets"), wrong_ends(BACK, both, "first"),
                 is_right(FOUR, running_wishes(4), "any")]
        self.assertEqual(shown, [((0, 0), (0, 1)), True, False, True, True, True, (1,), True])

    def test_settling_tables(self):
        shown = [settling_table("sets"), settling_table(2), settling_table("any")[1], settling_table("last")[1],
                 settling_table("ends")[2]]
        self.assertEqual(shown, [((0, 1), (1, 1)), ((0, 1), (1, 0)), (1, 4, 3, 4, 4), (1, 1, 2), (2, 3, 2, 3)])

    def test_rows(self):
        shown = [test_rows("any", 3), test_rows("first", 2), test_rows("ends", 2), test_rows("any", 1)]
        self.assertEqual(shown, [((1, 2, 0), (1, 0, 2), (0, 1, 2)), ((1, 0), (0, 1), (1, 2)), ((3, 0), (0, 3)), ((1,),)])

    def test_parting(self):
        shown = [parting(TWICE, BOTH, "any")[0], parting(BACK, BOTH, "even"), parting(BACK, BOTH, "last")[0]]
        self.assertEqual(shown, [1, None, 1])


class Shapes(unittest.TestCase):
    def test_names_of_arguments(self):
        for call, names in [(running_wishes, ["places"]), (is_right, ["net", "wishes", "kind"]),
                            (wrong_ends, ["net", "wishes", "kind"]), (settling_table, ["kind"]),
                            (test_rows, ["kind", "places"]), (parting, ["net", "wishes", "kind"])]:
            self.assertEqual(list(inspect.signature(call).parameters), names)
            self.assertEqual(call.__module__, rights.__name__)

    def test_by_name(self):
        self.assertEqual(running_wishes(places=2), BOTH)
        self.assertIs(is_right(kind="last", wishes=BOTH, net=TWICE), True)
        self.assertEqual(wrong_ends(kind="any", wishes=BOTH, net=TWICE), (1,))
        self.assertEqual(settling_table(kind="sets"), ((0, 1), (1, 1)))
        self.assertEqual(test_rows(places=1, kind="any"), ((1,),))
        self.assertEqual(parting(kind="any", wishes=BOTH, net=TWICE)[0], 1)


class RunningWishes(unittest.TestCase):
    def test_one_to_twelve(self):
        for places in range(1, 13):
            told = running_wishes(places)
            self.assertEqual((type(told), len(told)), (tuple, places))
            for at, wish in enumerate(told):
                self.assertEqual((type(wish), wish), (tuple, (0, at)))
                self.assertEqual([type(place) for place in wish], [int, int])

    def test_wrong_places(self):
        check_errors(self, running_wishes, {"places": 12}, ERRORS)


class Right(unittest.TestCase):
    def check(self, net, wishes, kind):
        pairs = list(zip(net[2], wishes))
        due = tuple([at for at, (end, wish) in enumerate(pairs)
                     if form(word(net, end), net[0], kind) != form(stretch_word(wish), net[0], kind)])
        told = wrong_ends(net, wishes, kind)
        self.assertEqual((type(told), told), (tuple, due), (net, wishes, kind))
        self.assertIs(is_right(net, wishes, kind), due == (), (net, wishes, kind))
        return len(due)

    def test_by_forms(self):
        for kind in KINDS:
            met = {True: 0, False: 0}
            for net, wishes in WISHED:
                wrong = self.check(net, wishes, kind)
                met[True] += len(wishes) - wrong
                met[False] += wrong
            self.assertTrue(met[True] > 300 and met[False] > 300, (kind, met))

    def test_changed_ladders(self):
        met = {kind: set() for kind in KINDS}
        for net in changed_ladders():
            for kind in KINDS:
                met[kind].add(self.check(net, running_wishes(net[0]), kind) == 0)
        for kind in KINDS:
            self.assertEqual(met[kind], {True, False}, kind)

    def test_ladders_are_right_for_all_kinds(self):
        for net in ladder_nets():
            for kind in KINDS:
                self.assertIs(is_right(net, running_wishes(net[0]), kind), True)
                self.assertEqual(wrong_ends(net, running_wishes(net[0]), kind), ())

    def test_other_wishes(self):
        self.assertIs(is_right(FOUR, ((0, 0), (0, 1), (0, 2), (0, 2)), "any"), False)
        self.assertEqual(wrong_ends(FOUR, ((0, 1), (0, 1), (1, 2), (0, 3)), "sets"), (0, 2))
        four = FOUR[:2] + ((5, 4, 2, 7, 6),)
        for kind in KINDS:
            self.assertIs(is_right(four, ((2, 3), (0, 1), (2, 2), (0, 3), (0, 2)), kind), True)
        self.assertEqual(wrong_ends(four, ((2, 3), (0, 1), (2, 2), (0, 2), (0, 3)), "ends"), (3, 4))
        self.assertEqual(wrong_ends(four, ((3, 3), (1, 1), (0, 2), (1, 3), (1, 2)), "ends"), (0, 1, 2, 3, 4))

    def test_each_kind_by_hand(self):
        # Ends of the words 0 1, 1 0, 0 1 1, 0 1 0, 0 0 1, 1 0 0 1, 0 1 1 1, all wished to be 0 1.
        net = (2, ((0, 1), (1, 0), (2, 1), (2, 0), (0, 2), (3, 2), (4, 1)), (2, 3, 4, 5, 6, 7, 8))
        due = {"any": (1, 2, 3, 4, 5, 6), "even": (2, 3, 4, 5, 6), 2: (2, 3, 4, 5), 3: (2, 3, 4, 5, 6), 8: (2, 3, 4, 5, 6),
               "first": (1, 5), "last": (1, 3), "sets": (), "ends": (1, 3, 5)}
        for kind, wrong in due.items():
            self.assertEqual(wrong_ends(net, ((0, 1),) * 7, kind), wrong, kind)

    def test_as_many_ends_as_wishes_not_places(self):
        net = (12, (), (5,) * 24)
        self.assertIs(is_right(net, ((5, 5),) * 24, "any"), True)
        self.assertEqual(wrong_ends(net, ((5, 5),) * 23 + ((5, 6),), "any"), (23,))

    def test_needless_boxes_do_not_matter(self):
        for kind in KINDS:
            self.assertIs(is_right(IDLE, BOTH, kind), True)

    def test_words_of_boxes_of_right_nets_are_those_of_stretches(self):
        met = 0
        for net, wishes in WISHED:
            if not needless(net) and is_right(net, wishes, "any"):
                met += 1
                self.assertNotIn(None, [stretch_of(net, wire) for wire in wires(net)], net)
        self.assertGreater(met, 20)


class LongWords(unittest.TestCase):
    def test_doubling(self):
        # 2 ** 60 leaves 1 by 3, 5 and 7, and 0, 4 and 0 by 4, 6 and 8.
        for kind in KINDS:
            due = () if kind in (3, 5, 7, "first", "last", "sets", "ends") else (0,)
            self.assertEqual(wrong_ends(DOUBLING, ((0, 0),), kind), due, kind)
            self.assertIs(is_right(DOUBLING, ((0, 0),), kind), due == ())

    def test_rests(self):
        # 840 is a multiple of each number from 2 to 8; 1 and 841 are alike for all of them, 2 and 842 for none.
        for many in (1, 841, 840 * 2 ** 45 + 1):
            net = doubled(many)
            self.assertEqual([kind for kind in range(2, 9) if not is_right(net, ((0, 0),), kind)], [])
        for many in (2, 842, 840 * 2 ** 45 + 2):
            net = doubled(many)
            self.assertEqual([kind for kind in range(2, 9) if is_right(net, ((0, 0),), kind)], [])
        for many in range(2, 40):
            net = doubled(many)
            self.assertEqual([kind for kind in range(2, 9) if is_right(net, ((0, 0),), kind)],
                             [kind for kind in range(2, 9) if many % kind == 1])
            self.assertIs(is_right(net, ((0, 0),), "even"), False)

    def test_several_places(self):
        turned = (12, ((0, 1), *CROSSED[1][1:]), CROSSED[2])
        wishes = ((0, 0), (0, 1))
        self.assertEqual([kind for kind in KINDS if is_right(CROSSED, wishes, kind)], ["sets"])
        self.assertEqual([kind for kind in KINDS if is_right(turned, wishes, kind)], ["first", "last", "sets", "ends"])
        self.assertEqual(wrong_ends(turned, ((0, 1), (0, 2)), "ends"), (0, 1))

    def test_around_400_places(self):
        for many in (399, 400, 401, 512):
            net = doubled(many)
            self.assertEqual([wrong_ends(net, ((0, 0),), "any"), parting(net, ((0, 0),), "any")], [(0,), (0, (1,))])

    def test_short_ends_beside_long_ones(self):
        net = (2, tuple([(k + 1 if k else 0, k + 1) for k in range(59)]) + ((0, 1),), (61, 60, 0, 61))
        wishes = ((0, 1), (0, 1), (0, 0), (0, 1))
        self.assertEqual(wrong_ends(net, wishes, "any"), (1,))
        self.assertEqual(parting(net, wishes, "any")[0], 1)
        needless_ones = (2, net[1], (0, 61))
        self.assertIs(is_right(needless_ones, BOTH, "any"), True)
        self.assertIsNone(parting(needless_ones, BOTH, "any"))

    def test_parting(self):
        for net in (DOUBLING, CHAIN, CROSSED):
            for kind in KINDS:
                for wish in stretches(net[0])[:15]:
                    check_parting(self, net, (wish,) * len(net[2]), kind)


class AllJoins(unittest.TestCase):
    def test_what_is_right_for_any_is_so_for_all(self):
        met = {"any": 0, "even": 0, "first": 0, "last": 0}
        for net, wishes in WISHED + [(net, running_wishes(net[0])) for net in changed_ladders()]:
            right = [kind for kind in KINDS if is_right(net, wishes, kind)]
            if "any" in right:
                self.assertEqual(tuple(right), KINDS)
            if "even" in right:
                self.assertTrue(set(EVEN_LIKE) <= set(right), right)
            if "first" in right or "last" in right:
                self.assertIn("sets", right)
            for kind in met:
                met[kind] += kind in right
        self.assertGreater(min(met.values()), 50)

    def test_by_forms_of_one_end(self):
        for net in small_nets()[::3]:
            for wire, wish in product(wires(net), stretches(net[0])):
                one = (net[0], net[1], (wire,))
                right = [kind for kind in KINDS if is_right(one, (wish,), kind)]
                if "any" in right:
                    self.assertEqual(tuple(right), KINDS)
                if "even" in right:
                    self.assertTrue(set(EVEN_LIKE) <= set(right))
                if "first" in right or "last" in right:
                    self.assertIn("sets", right)

    def test_right_nets_on_all_tables_of_the_kind(self):
        nets = [PAIR, BACK, TWICE, THREE, FOUR, (3, ((1, 0), (3, 2)), (0, 3, 4)), (3, ((0, 1), (1, 2), (3, 4)), (0, 3, 5))]
        met = {kind: 0 for kind in KINDS}
        for table in big_joins()[::6] + [settling_table(kind) for kind in KINDS]:
            for kind in kinds_of(table):
                for net in nets:
                    wishes = running_wishes(net[0])
                    if is_right(net, wishes, kind):
                        met[kind] += 1
                        for row in list(product(range(len(table)), repeat=net[0]))[::7]:
                            due = [total(stretch_word(wish), row, lambda x, y: table[x][y]) for wish in wishes]
                            self.assertEqual(run(net, table, row), tuple(due), (net, table, row))
        self.assertGreater(min(met.values()), 3)


class SettlingTables(unittest.TestCase):
    def test_by_their_rules(self):
        for kind in KINDS:
            told = settling_table(kind)
            self.assertEqual(told, settled(kind), kind)
            self.assertIs(is_table(told), True)

    def test_sizes(self):
        self.assertEqual([len(settling_table(kind)) for kind in KINDS], [5, 3, 2, 3, 4, 5, 6, 7, 8, 3, 3, 2, 4])

    def test_each_is_a_join_of_its_kind(self):
        for kind in KINDS:
            told = settling_table(kind)
            self.assertTrue(associative(told) and is_join(told), kind)
            self.assertIn(kind, kinds_held(told))
            self.assertIn(kind, kinds_of(told))

    def test_what_any_tells_of_two_places(self):
        table = settling_table("any")
        for many in range(1, 6):
            for held in product(range(3), repeat=many):
                told = total(held, (1, 2, 0), lambda x, y: table[x][y])
                just = tuple([place for place in held if place < 2])
                self.assertEqual(told, {(): 0, (0,): 1, (1,): 2, (0, 1): 3}.get(just, 4), held)

    def test_wrong_kinds(self):
        check_errors(self, settling_table, {"kind": "any"}, ERRORS)


class TestRows(unittest.TestCase):
    def singles(self, places, worth):
        return [tuple([worth if other == place else 0 for other in range(places)]) for place in range(places)]

    def pairs(self, places):
        return [tuple([1 if at == one else 2 if at == two else 0 for at in range(places)])
                for one in range(places) for two in range(places) if one < two]

    def test_all(self):
        for places in range(1, 13):
            for kind in KINDS:
                due = self.singles(places, 3 if kind == "ends" else 1)
                if kind in ("first", "last"):
                    due = due + self.pairs(places)
                if kind == "any" and places > 1:
                    due = self.pairs(places)
                told = test_rows(kind, places)
                self.assertEqual((type(told), told), (tuple, tuple(due)), (kind, places))
                size = len(settling_table(kind))
                for row in told:
                    self.assertEqual((type(row), len(row)), (tuple, places))
                    self.assertTrue(all([type(worth) is int and 0 <= worth < size for worth in row]))

    def test_by_hand(self):
        for kind in EVEN_LIKE:
            self.assertEqual(test_rows(kind, 3), ((1, 0, 0), (0, 1, 0), (0, 0, 1)))
            self.assertEqual(test_rows(kind, 1), ((1,),))
        for kind in ("first", "last"):
            self.assertEqual(test_rows(kind, 1), ((1,),))
            self.assertEqual(test_rows(kind, 3), ((1, 0, 0), (0, 1, 0), (0, 0, 1), (1, 2, 0), (1, 0, 2), (0, 1, 2)))
        self.assertEqual([test_rows("ends", 1), test_rows("ends", 3)], [((3,),), ((3, 0, 0), (0, 3, 0), (0, 0, 3))])
        self.assertEqual(test_rows("any", 2), ((1, 2),))
        self.assertEqual(test_rows("any", 4), ((1, 2, 0, 0), (1, 0, 2, 0), (1, 0, 0, 2), (0, 1, 2, 0), (0, 1, 0, 2),
                                               (0, 0, 1, 2)))
        self.assertEqual([len(test_rows(kind, 12)) for kind in ("any", "sets", "first", "ends")], [66, 12, 78, 12])

    def test_an_end_is_right_exactly_if_it_tells_each_row_rightly(self):
        for kind in KINDS:
            table = settling_table(kind)
            for net, wishes in WISHED:
                rows = test_rows(kind, net[0])
                wrong = set()
                for row in rows:
                    for at, told in enumerate(run(net, table, row)):
                        if told != total(stretch_word(wishes[at]), row, lambda x, y: table[x][y]):
                            wrong.add(at)
                self.assertEqual(wrong_ends(net, wishes, kind), tuple(sorted(wrong)), (net, wishes, kind))

    def test_no_row_of_sets_can_be_spared(self):
        for places in range(2, 13):
            for lacking in range(places):
                boxes, ends, last = [], [0], 0
                for place in range(1, places):
                    boxes.append((last, place))
                    last = places + len(boxes) - 1
                    ends.append(last)
                kept = [place for place in range(places) if place != lacking]
                final = kept[0]
                for place in kept[1:]:
                    boxes.append((final, place))
                    final = places + len(boxes) - 1
                net = (places, tuple(boxes), (*ends[:-1], final))
                told = [row for row in test_rows("sets", places)
                        if run(net, settling_table("sets"), row) != tuple([max(row[:at + 1]) for at in range(places)])]
                self.assertEqual(told, [test_rows("sets", places)[lacking]])
                self.assertEqual(parting(net, running_wishes(places), "sets"), (places - 1, told[0]))

    def test_errors(self):
        check_errors(self, test_rows, {"kind": "any", "places": 3}, ERRORS)
        check_errors(self, test_rows, {"kind": 8, "places": 12}, ERRORS)


def check_parting(case, net, wishes, kind):
    """Whether the net is right; what parting tells is seen by a run on the settling table."""
    told = parting(net, wishes, kind)
    if told is None:
        case.assertIs(is_right(net, wishes, kind), True, (net, wishes, kind))
        return True
    case.assertEqual((type(told), len(told)), (tuple, 2))
    end, row = told
    table = settling_table(kind)
    case.assertTrue(type(end) is int and 0 <= end < len(net[2]), told)
    case.assertEqual((type(row), len(row)), (tuple, net[0]))
    case.assertTrue(all([type(worth) is int and 0 <= worth < len(table) for worth in row]), told)
    due = total(stretch_word(wishes[end]), row, lambda x, y: table[x][y])
    case.assertNotEqual(run(net, table, row)[end], due, (net, wishes, kind, told))
    case.assertIn(end, wrong_ends(net, wishes, kind))
    return False


class Parting(unittest.TestCase):
    def test_nets_with_wishes(self):
        for kind in KINDS:
            for net, wishes in WISHED:
                check_parting(self, net, wishes, kind)

    def test_one_end(self):
        for kind in KINDS:
            met = {True: 0, False: 0}
            for net in small_nets()[::2]:
                for wire, wish in product(wires(net), stretches(net[0])):
                    one = (net[0], net[1], (wire,))
                    right = form_of(net, wire, kind) == form(stretch_word(wish), net[0], kind)
                    self.assertIs(check_parting(self, one, (wish,), kind), right, (one, wish, kind))
                    met[right] += 1
            self.assertTrue(met[True] > 100 and met[False] > 100, met)

    def test_changed_ladders(self):
        for net in changed_ladders():
            for kind in KINDS:
                check_parting(self, net, running_wishes(net[0]), kind)

    def test_by_hand(self):
        self.assertEqual(parting(TWICE, BOTH, "any"), (1, (1, 2)))
        self.assertEqual(parting(BACK, BOTH, "last"), (1, (1, 2)))
        self.assertEqual(parting(TWICE, BOTH, "even"), (1, (0, 1)))
        self.assertEqual([parting(BARE, ((0, 0),), kind) for kind in KINDS], [None] * 13)
        self.assertIsNone(parting(WIDE, ((11, 11), (0, 0), (5, 5), (5, 5)), "any"))
        self.assertEqual(parting(WIDE, ((11, 11), (0, 0), (5, 6), (5, 5)), "sets")[0], 2)
        self.assertEqual(parting((12, (), (11,)), ((0, 11),), "any")[0], 0)


class Errors(unittest.TestCase):
    def test_net_wishes_kind(self):
        for call in (is_right, wrong_ends, parting):
            for net, kind in ((PAIR, "any"), (BACK, 2), (TWICE, "ends")):
                check_errors(self, call, {"net": net, "wishes": BOTH, "kind": kind}, ERRORS)

    def test_wishes_of_other_nets(self):
        for call in (is_right, wrong_ends, parting):
            for net in (FOUR, BARE, WIDE, DOUBLING, CROSSED):
                for many in range(26):
                    if many == len(net[2]):
                        call(net, ((0, 0),) * many, "any")
                    else:
                        error = caught(call, net, ((0, 0),) * many, "any")
                        self.assertEqual((type(error), error.index), (InvalidWishes, None))
                wish = ((0, net[0]),) * len(net[2])
                self.assertEqual(caught(call, net, wish, None).index, 0)
                wish = ((0, net[0] - 1),) * (len(net[2]) - 1) + ((net[0], net[0]),)
                self.assertEqual(caught(call, net, wish, "any").index, len(net[2]) - 1)

    def test_all_stretches_and_no_other_pairs(self):
        net = (4, (), (0,))
        for first, last in product(range(-2, 7), repeat=2):
            if 0 <= first <= last < 4:
                self.assertIs(is_right(net, ((first, last),), "any"), last == 0)
            else:
                error = caught(is_right, net, ((first, last),), "any")
                self.assertEqual((type(error), error.index), (InvalidWishes, 0))


if __name__ == "__main__":
    unittest.main()
