import inspect
import random
import unittest
from itertools import product

from runnets import faults as module
from runnets.errors import InvalidFault, InvalidKind, InvalidNet, InvalidWishes
from runnets.faults import faulty, harmed_ends, harmless
from runnets.nets import is_net, needless, trimmed
from runnets.rights import is_right, running_wishes, wrong_ends
from tests.right_samples import changed_ladders, halves_nets, right_nets, stretch_word, stretches, wished_nets
from tests.samples import (ALIKE, BACK, BARE, CROSSED, DOUBLING, FOUR, IDLE, KINDS, PAIR, SHOWN, TWICE, UNUSED, WIDE,
                           caught, drawn_nets, form, ladder_nets, small_nets, wires)
from tests.table_samples import WRONG_FAULTS, check_errors

ROW3, TWIN3 = (3, ((0, 1), (3, 2)), (0, 3, 4)), (3, ((0, 1), (1, 2), (3, 4)), (0, 3, 5))
WISHES3 = ((0, 0), (0, 1), (0, 2))
WAYS = ("first", "second", "turned")
ERRORS = {"net": InvalidNet, "wishes": InvalidWishes, "kind": InvalidKind, "fault": InvalidFault}
NETS = [*SHOWN, *small_nets()[::3], *drawn_nets(60, 6), *ladder_nets(), *halves_nets(), *changed_ladders()[::9]]
WISHED = wished_nets()[::5] + [(net, running_wishes(net[0])) for net in changed_ladders()[::7]]


def pairs(net):
    return [(box, way) for box in range(len(net[1])) for way in WAYS]


def triples(net):
    return [(box, side, wire) for box in range(len(net[1])) for side in (0, 1) for wire in range(net[0] + box)]


def drawn_faults(net, many=6):
    """Faults of the net drawn by a fixed seed."""
    draw = random.Random(len(net[1]))
    held = pairs(net) + triples(net)
    return [draw.choice(held) for _ in range(many)] if held else []


def spelled(net, fault, wire):
    """The word of a wire that is used in the faulty net, told from the net itself."""
    places, boxes, _ = net
    if wire < places:
        return (wire,)
    box = wire - places
    first, second = boxes[box]
    if box == fault[0]:
        if fault[1] == "first":
            return spelled(net, fault, first)
        if fault[1] == "second":
            return spelled(net, fault, second)
        if fault[1] == "turned":
            first, second = second, first
        elif fault[1] == 0:
            first = fault[2]
        else:
            second = fault[2]
    return spelled(net, fault, first) + spelled(net, fault, second)


def due(net, wishes, kind, fault):
    """The ends of the faulty net that are not right, told by their words."""
    return tuple([at for at, end in enumerate(net[2])
                  if form(spelled(net, fault, end), net[0], kind) != form(stretch_word(wishes[at]), net[0], kind)])


class ShownExamples(unittest.TestCase):
    def test_faulty(self):
        shown = [faulty(ROW3, (0, "first")), faulty(ROW3, (1, "turned")), faulty(TWIN3, (1, 0, 0))]
        self.assertEqual(shown, [(3, ((0, 1), (0, 2)), (0, 0, 4)), (3, ((0, 1), (2, 3)), (0, 3, 4)),
                                 (3, ((0, 1), (0, 2), (3, 4)), (0, 3, 5))])

    def test_harm(self):
        shown = [harmed_ends(ROW3, WISHES3, "any", (0, "first")), harmed_ends(ROW3, WISHES3, "even", (0, "turned")),
                 harmless(ROW3, WISHES3, "any"), harmless(TWIN3, WISHES3, "sets")]
        self.assertEqual(shown, [(1, 2), (), (), ((0, 'turned'), (1, 'second'), (1, 'turned'), (2, 'turned'))])


class Shapes(unittest.TestCase):
    def test_names_of_arguments(self):
        for call, names in [(faulty, ["net", "fault"]), (harmed_ends, ["net", "wishes", "kind", "fault"]),
                            (harmless, ["net", "wishes", "kind"])]:
            self.assertEqual(list(inspect.signature(call).parameters), names)
            self.assertEqual(call.__module__, module.__name__)

    def test_by_name(self):
        self.assertEqual(faulty(fault=(0, "first"), net=ROW3), (3, ((0, 1), (0, 2)), (0, 0, 4)))
        self.assertEqual(harmed_ends(fault=(0, "first"), kind="any", wishes=WISHES3, net=ROW3), (1, 2))
        self.assertEqual(harmless(kind="any", wishes=WISHES3, net=ROW3), ())


class Faulty(unittest.TestCase):
    def check(self, net, fault):
        places, boxes, ends = net
        own, told = places + fault[0], faulty(net, fault)
        self.assertIs(is_net(told), True, (net, fault))
        self.assertEqual((told[0], len(told[1]), len(told[2])), (places, len(boxes), len(ends)))
        first, second = boxes[fault[0]]
        if fault[1] in ("first", "second"):
            led = first if fault[1] == "first" else second
            self.assertEqual(told[1][fault[0]], (first, second))
            for row, held in zip((*boxes, ends), (*told[1], told[2])):
                self.assertEqual(held, tuple([led if wire == own else wire for wire in row]))
            return
        if fault[1] == "turned":
            wires = (second, first)
        else:
            wires = (fault[2], second) if fault[1] == 0 else (first, fault[2])
        self.assertEqual(told, (places, (*boxes[:fault[0]], wires, *boxes[fault[0] + 1:]), ends))

    def test_all_faults(self):
        for net in (*SHOWN, *small_nets(), TWIN3, *ladder_nets()[:12], *drawn_nets(20, 5)):
            for fault in pairs(net) + triples(net):
                self.check(net, fault)

    def test_greater_nets(self):
        for net in (*NETS, DOUBLING, CROSSED):
            for fault in pairs(net) + drawn_faults(net, 20):
                self.check(net, fault)

    def test_words(self):
        for net in (*SHOWN, TWIN3, *small_nets()[::4], *ladder_nets()):
            for fault in pairs(net) + drawn_faults(net):
                told = faulty(net, fault)
                for end, held in zip(net[2], told[2]):
                    self.assertEqual(spelled(told, (None,), held), spelled(net, fault, end), (net, fault))

    def test_by_hand(self):
        # Box 0 of this net is used twice by box 1, once by box 2, and is an end twice.
        net = (2, ((0, 1), (2, 2), (2, 3)), (2, 4, 2, 3))
        self.assertEqual(faulty(net, (0, "first")), (2, ((0, 1), (0, 0), (0, 3)), (0, 4, 0, 3)))
        self.assertEqual(faulty(net, (0, "second")), (2, ((0, 1), (1, 1), (1, 3)), (1, 4, 1, 3)))
        self.assertEqual(faulty(net, (0, "turned")), (2, ((1, 0), (2, 2), (2, 3)), (2, 4, 2, 3)))
        self.assertEqual(faulty(net, (1, "first")), (2, ((0, 1), (2, 2), (2, 2)), (2, 4, 2, 2)))
        self.assertEqual(faulty(net, (2, "second")), (2, ((0, 1), (2, 2), (2, 3)), (2, 3, 2, 3)))
        self.assertEqual(faulty(net, (2, "turned")), (2, ((0, 1), (2, 2), (3, 2)), (2, 4, 2, 3)))
        self.assertEqual(faulty(net, (0, 0, 1)), (2, ((1, 1), (2, 2), (2, 3)), (2, 4, 2, 3)))
        self.assertEqual(faulty(net, (0, 1, 0)), (2, ((0, 0), (2, 2), (2, 3)), (2, 4, 2, 3)))
        self.assertEqual(faulty(net, (2, 0, 3)), (2, ((0, 1), (2, 2), (3, 3)), (2, 4, 2, 3)))
        self.assertEqual(faulty(net, (2, 1, 0)), (2, ((0, 1), (2, 2), (2, 0)), (2, 4, 2, 3)))

    def test_the_wire_that_it_has(self):
        for net in (*SHOWN, *drawn_nets(30)):
            for box, (first, second) in enumerate(net[1]):
                self.assertEqual([faulty(net, (box, 0, first)), faulty(net, (box, 1, second))], [net, net])

    def test_needless_boxes(self):
        self.assertEqual(faulty(IDLE, (1, "first")), IDLE)
        self.assertEqual(faulty(IDLE, (1, "turned")), (2, ((0, 1), (0, 1)), (0, 2)))
        self.assertEqual(faulty(UNUSED, (0, "second")), (3, ((2, 1), (1, 0), (0, 1), (4, 4), (5, 2)), (0, 5, 7)))
        for net in (IDLE, UNUSED, ALIKE):
            for box in needless(net):
                for fault in pairs(net) + triples(net):
                    if fault[0] == box:
                        self.assertEqual(trimmed(faulty(net, fault)), trimmed(net))


class Harm(unittest.TestCase):
    def check(self, net, wishes, kind, fault):
        told = harmed_ends(net, wishes, kind, fault)
        self.assertEqual((type(told), told), (tuple, due(net, wishes, kind, fault)), (net, wishes, kind, fault))
        self.assertTrue(all([type(end) is int for end in told]))
        return told

    def test_by_words(self):
        for kind in KINDS:
            met = {True: 0, False: 0}
            for net, wishes in WISHED:
                for fault in drawn_faults(net):
                    met[self.check(net, wishes, kind, fault) == ()] += 1
            self.assertTrue(met[True] > 10 and met[False] > 100, (kind, met))

    def test_all_faults_of_right_nets(self):
        for net in (PAIR, ROW3, TWIN3, FOUR, TWICE, BACK, IDLE, UNUSED, *halves_nets()[4:7]):
            wishes = running_wishes(net[0])
            for kind in KINDS:
                for fault in pairs(net) + triples(net):
                    self.check(net, wishes, kind, fault)

    def test_a_fault_may_make_ends_right(self):
        self.assertEqual(wrong_ends(BACK, ((0, 0), (0, 1)), "any"), (1,))
        self.assertEqual(harmed_ends(BACK, ((0, 0), (0, 1)), "any", (0, "turned")), ())
        self.assertEqual(harmed_ends(TWICE, ((0, 0), (0, 1)), "any", (1, "first")), ())
        self.assertEqual(harmless(BACK, ((0, 0), (0, 1)), "any"), ((0, "turned"),))
        self.assertEqual(harmless(TWICE, ((0, 0), (0, 1)), "any"), ((0, "first"), (1, "first")))
        self.assertEqual(harmless(TWICE, ((0, 0), (0, 0)), "any"), ())
        self.assertEqual(harmless(PAIR, ((0, 0), (0, 0)), "any"), ((0, "first"),))
        self.assertEqual(harmless(PAIR, ((0, 0), (1, 1)), "any"), ((0, "second"),))

    def test_no_fault_changes_what_needless_boxes_tell(self):
        for kind in KINDS:
            self.assertIn((1, "first"), harmless(IDLE, ((0, 0), (0, 1)), kind))
            self.assertEqual(harmed_ends(IDLE, ((0, 0), (0, 1)), kind, (1, 1, 2)), ())
            self.assertEqual(harmless(IDLE, ((0, 1), (0, 1)), kind), ())

    def test_long_words(self):
        half = (1, DOUBLING[1], (60,))
        for kind in KINDS:
            right = kind in (3, 5, 7, "first", "last", "sets", "ends")
            self.assertEqual(harmed_ends(half, ((0, 0),), kind, (59, "turned")), () if right else (0,), kind)
            # Half as many places: 2 ** 59 leaves 2, 3 and 4 by 3, 5 and 7.
            right = kind in ("first", "last", "sets", "ends")
            self.assertEqual(harmed_ends(half, ((0, 0),), kind, (59, "first")), () if right else (0,), kind)
            right = kind in ("first", "last", "sets", "ends")
            self.assertEqual((59, "second") in harmless(half, ((0, 0),), kind), right)
            # The place once and 2 ** 59 times: 2 ** 59 + 1 leaves 1 by 2, 4 and 8.
            right = kind in (2, 4, 8, "first", "last", "sets", "ends")
            self.assertEqual(harmed_ends(half, ((0, 0),), kind, (59, 1, 0)), () if right else (0,), kind)
            self.assertEqual(harmed_ends(half, ((0, 0),), kind, (0, 0, 0)), wrong_ends(half, ((0, 0),), kind))
        wishes = ((0, 0), (0, 1))
        self.assertEqual([kind for kind in KINDS if harmed_ends(CROSSED, wishes, kind, (0, "turned")) == ()],
                         ["first", "last", "sets", "ends"])
        self.assertEqual(harmed_ends(CROSSED, wishes, "any", (59, 0, 0)), (1,))
        self.assertEqual(len(harmless(CROSSED, wishes, "sets")), 3 * 60 - 2)
        # A needless box of 2 ** 59 places, made needed.
        heavy = (2, ((0, 1), (0, 0)) + tuple([(k + 3, k + 3) for k in range(57)]) + ((0, 1),), (0, 61))
        self.assertEqual(harmed_ends(heavy, wishes, "any", (59, 0, 60)), (1,))
        self.assertEqual(harmed_ends(heavy, wishes, "any", (59, 0, 0)), ())
        self.assertEqual(harmed_ends(heavy, wishes, "ends", (59, 0, 60)), ())
        self.assertEqual(harmed_ends(heavy, wishes, 4, (59, 0, 60)), (1,))


class Harmless(unittest.TestCase):
    def check(self, net, wishes, kind):
        told = harmless(net, wishes, kind)
        expected = tuple([fault for fault in pairs(net) if due(net, wishes, kind, fault) == ()])
        self.assertEqual((type(told), told), (tuple, expected), (net, wishes, kind))
        for fault in told:
            self.assertEqual([type(fault), type(fault[0]), type(fault[1])], [tuple, int, str])

    def test_by_words(self):
        for kind in KINDS:
            for net, wishes in WISHED[::4]:
                self.check(net, wishes, kind)
            for net in (ROW3, TWIN3, FOUR, IDLE, UNUSED):
                for wishes in (running_wishes(net[0]), ((0, 0),) * net[0]):
                    self.check(net, wishes, kind)

    def test_all_boxes_and_ways_in_order(self):
        # No box matters here, and all ends are right.
        net = (2, ((0, 1), (2, 2), (3, 0)), (0, 1))
        for kind in KINDS:
            self.assertEqual(harmless(net, ((0, 0), (1, 1)), kind), tuple(pairs(net)))
            self.assertEqual(harmless(net, ((0, 0), (0, 0)), kind), ())
            self.assertEqual(harmless(BARE, ((0, 0),), kind), ())

    def test_none_for_any_in_right_nets_without_needless_boxes(self):
        met = 0
        for net in [*ladder_nets(), *halves_nets(), *[trimmed(net) for net in right_nets()]]:
            self.assertEqual(needless(net), ())
            self.assertEqual(harmless(net, running_wishes(net[0]), "any"), (), net)
            met += len(net[1])
        for net, wishes in wished_nets():
            if not needless(net) and is_right(net, wishes, "any"):
                self.assertEqual(harmless(net, wishes, "any"), (), (net, wishes))
                met += 1
        self.assertGreater(met, 500)

    def test_turned_boxes_where_the_order_does_not_matter(self):
        met = 0
        for net, wishes in [*WISHED, *[(net, running_wishes(net[0])) for net in right_nets(60)]]:
            for kind in ("even", 2, 3, 4, 5, 6, 7, 8, "sets"):
                if is_right(net, wishes, kind):
                    turned = [(box, "turned") for box in range(len(net[1]))]
                    self.assertEqual([fault for fault in harmless(net, wishes, kind) if fault[1] == "turned"], turned)
                    self.assertEqual([harmed_ends(net, wishes, kind, fault) for fault in turned], [()] * len(turned))
                    met += len(turned)
        self.assertGreater(met, 1000)


class Errors(unittest.TestCase):
    def test_in_order(self):
        right = {"net": PAIR, "wishes": ((0, 0), (0, 1)), "kind": "any", "fault": (0, "first")}
        check_errors(self, faulty, {"net": PAIR, "fault": (0, "second")}, ERRORS)
        check_errors(self, faulty, {"net": BACK, "fault": (0, 1, 0)}, ERRORS)
        check_errors(self, harmed_ends, right, ERRORS)
        check_errors(self, harmed_ends, {**right, "net": BACK, "kind": 2, "fault": (0, 0, 1)}, ERRORS)
        check_errors(self, harmless, {"net": PAIR, "wishes": ((0, 0), (0, 1)), "kind": "ends"}, ERRORS)

    def fails(self, net, fault):
        for error in (caught(faulty, net, fault), caught(harmed_ends, net, ((0, 0),) * len(net[2]), "any", fault)):
            self.assertIs(type(error), InvalidFault, (net, fault))
            self.assertIs(error.given, fault)

    def test_no_boxes_no_faults(self):
        for net in (BARE, WIDE):
            for fault in [*WRONG_FAULTS, (0, "first"), (0, "turned"), (0, 0, 0), (0, 1, 0), (-1, "first")]:
                self.fails(net, fault)

    def test_just_the_faults_of_the_net(self):
        words = [*WAYS, "third", 0, 1, None]
        for net in (PAIR, ROW3, TWIN3, FOUR, ALIKE):
            places, boxes, _ = net
            right = pairs(net) + triples(net)
            for fault in product(range(-2, len(boxes) + 2), words):
                if fault in right:
                    faulty(net, fault)
                else:
                    self.fails(net, fault)
            for fault in product(range(-2, len(boxes) + 2), range(-1, 3), range(-2, places + len(boxes) + 2)):
                if fault in right:
                    faulty(net, fault)
                else:
                    self.fails(net, fault)
        for fault in [(59, 1, 60), (60, "first"), (59, 0, 61), (58, 0, 59)]:
            if fault in triples(DOUBLING):
                faulty(DOUBLING, fault)
            else:
                self.fails(DOUBLING, fault)

    def test_stretches_of_the_net_are_wished(self):
        for net in (PAIR, FOUR):
            for wish in stretches(net[0]):
                harmed_ends(net, (wish,) * net[0], "any", (0, "first"))
            error = caught(harmed_ends, net, ((0, net[0]),) * net[0], None, None)
            self.assertEqual((type(error), error.index), (InvalidWishes, 0))
            error = caught(harmless, net, ((0, 0),) * (net[0] + 1), None)
            self.assertEqual((type(error), error.index), (InvalidWishes, None))

    def test_nets_without_as_many_ends_as_places_are_let(self):
        self.assertEqual(harmless((3, ((0, 1),), (3,)), ((0, 1),), "sets"), ((0, "turned"),))
        self.assertEqual(harmed_ends((1, ((0, 0),), (1, 1, 0)), ((0, 0),) * 3, 2, (0, "first")), ())


if __name__ == "__main__":
    unittest.main()
