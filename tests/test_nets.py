import inspect
import unittest

from runnets import nets
from runnets.errors import InvalidNet, InvalidWire, TooLong
from runnets.nets import (depth_of, depths, fans, is_net, joins_of, lengths, mirrored, needless, rests_on, stretch_of,
                          trimmed, word_of)
from tests.samples import (ALIKE, BACK, BARE, CHAIN, CROSSED, DOUBLING, FOUR, IDLE, OTHERS, PAIR, SHOWN, THREE, TWICE,
                           UNUSED, WIDE, WRONG_NETS, Odd, caught, doubled, drawn_nets, ladder_nets, rests, small_nets,
                           wires, word)

OF_NET = (joins_of, depth_of, depths, lengths, fans, needless, trimmed, mirrored)
OF_WIRE = (word_of, stretch_of, rests_on)
ALL_NETS = [*SHOWN, *small_nets(), *drawn_nets(), *ladder_nets()]


def plain(value):
    """The value with the class of each part, so that True and 1 are unlike."""
    if type(value) in (tuple, list):
        return (type(value), [plain(part) for part in value])
    return (type(value), value)


class Case(unittest.TestCase):
    def same(self, one, two, told=None):
        self.assertEqual(plain(one), plain(two), told)


class ShownExamples(Case):
    def test_first(self):
        shown = [is_net(PAIR), is_net((2, ((0, 2),), (0,))), is_net([2, (), (0,)]), joins_of(FOUR), depth_of(FOUR),
                 depths(THREE), lengths(TWICE), fans(FOUR)]
        self.same(shown, [True, False, False, 4, 2, (0, 0, 0, 1, 2), (1, 1, 2, 3), (2, 1, 2, 1, 3, 1, 1, 1)])

    def test_second(self):
        shown = [word_of(TWICE, 3), stretch_of(FOUR, 5), stretch_of(FOUR, 2), stretch_of(TWICE, 3), stretch_of(BACK, 2),
                 rests_on(FOUR, 7), rests_on(FOUR, 0)]
        self.same(shown, [(0, 1, 1), (2, 3), (2, 2), None, None, (0, 1, 3), ()])

    def test_third(self):
        shown = [needless(IDLE), trimmed(IDLE) == PAIR, mirrored(THREE), word_of(mirrored(THREE), 4)]
        self.same(shown, [(1,), True, (3, ((1, 2), (0, 3)), (2, 3, 4)), (0, 1, 2)])


class IsNet(Case):
    def test_right_ones(self):
        for net in (*ALL_NETS, DOUBLING, CHAIN, CROSSED):
            self.assertIs(is_net(net), True, net)

    def test_greatest_and_least_ones(self):
        for net in [(1, (), (0,)), (12, (), (11,)), (1, ((0, 0),) * 60, (60,)), (1, (), (0,) * 24), (12, (), (0,) * 24),
                    (12, tuple([(11 + t, 0) for t in range(60)]), (71,) * 24), (2, ((1, 1), (2, 2)), (3, 3, 0, 1))]:
            self.assertIs(is_net(net), True, net)

    def test_wrong_ones(self):
        for net in WRONG_NETS:
            self.assertIs(is_net(net), False, net)

    def test_each_part_by_other_things(self):
        for other in OTHERS:
            for net in [(other, (), (0,)), (1, other, (0,)), (1, (), other), (1, (other,), (0,)), (1, (), (other,)),
                        (1, ((other, 0),), (0,)), (1, ((0, other),), (0,)), (1, (), (0, other))]:
                self.assertIs(is_net(net), False, net)

    def test_by_name(self):
        self.assertIs(is_net(value=PAIR), True)
        self.assertIs(is_net(value=None), False)


class Shapes(Case):
    def test_names_and_places_of_arguments(self):
        for call in OF_NET:
            self.assertEqual(list(inspect.signature(call).parameters), ["net"])
            self.same(call(net=ALIKE), call(ALIKE), call)
        for call in OF_WIRE:
            self.assertEqual(list(inspect.signature(call).parameters), ["net", "wire"])
            self.same(call(wire=5, net=ALIKE), call(ALIKE, 5), call)
        self.assertEqual(list(inspect.signature(is_net).parameters), ["value"])

    def test_defined_in_this_file(self):
        for call in (is_net, *OF_NET, *OF_WIRE):
            self.assertEqual(call.__module__, nets.__name__)


class Wires(Case):
    def test_all_nets(self):
        for net in ALL_NETS:
            words = [word(net, wire) for wire in wires(net)]
            self.same(joins_of(net), len(net[1]), net)
            self.same(lengths(net), tuple([len(held) for held in words]), net)
            for wire in wires(net):
                if len(words[wire]) <= 400:
                    self.same(word_of(net, wire), words[wire], net)

    def test_depths(self):
        for net in ALL_NETS:
            told, (places, boxes, _) = depths(net), net
            self.same(told[:places], (0,) * places)
            self.assertEqual(len(told), places + len(boxes))
            for t, (first, second) in enumerate(boxes):
                self.same(told[places + t], 1 + max(told[first], told[second]), net)
            self.same(depth_of(net), max(told), net)

    def test_depth_of_needless_boxes_counts(self):
        self.same(depth_of((1, ((0, 0), (1, 0)), (0,))), 2)
        self.same(depth_of(BARE), 0)
        self.same(depth_of(WIDE), 0)
        self.same(depth_of((3, ((0, 1), (3, 3), (1, 2)), (5,))), 2)

    def test_without_boxes(self):
        self.same([joins_of(WIDE), depths(WIDE), lengths(WIDE), needless(WIDE), trimmed(WIDE), word_of(WIDE, 11)],
                  [0, (0,) * 12, (1,) * 12, (), WIDE, (11,)])
        self.same(fans(WIDE), (1, 0, 0, 0, 0, 2, 0, 0, 0, 0, 0, 1))
        self.same(mirrored(WIDE), (12, (), (0, 11, 6, 6)))
        self.same([rests_on(WIDE, 3), stretch_of(WIDE, 3), stretch_of(BARE, 0), fans(BARE)], [(), (3, 3), (0, 0), (1,)])

    def test_boxes_twice_alike(self):
        self.same([joins_of(ALIKE), depths(ALIKE), lengths(ALIKE)], [5, (0, 0, 0, 1, 1, 2, 1, 3), (1, 1, 1, 2, 2, 4, 2, 5)])
        self.same([word_of(ALIKE, 5), word_of(ALIKE, 6), word_of(ALIKE, 7)], [(0, 1, 0, 1), (1, 1), (0, 1, 0, 1, 2)])
        self.same(fans(ALIKE), (2, 4, 1, 2, 2, 1, 0, 2))
        self.same([rests_on(ALIKE, 7), rests_on(ALIKE, 4), needless(ALIKE)], [(0, 1, 2, 4), (1,), (3,)])

    def test_sixty_boxes_that_double(self):
        self.same([joins_of(DOUBLING), depth_of(DOUBLING), depths(DOUBLING)], [60, 60, tuple(range(61))])
        self.same(lengths(DOUBLING), tuple([2 ** k for k in range(61)]))
        self.same(fans(DOUBLING), (2,) * 60 + (1,))
        self.same(rests_on(DOUBLING, 60), tuple(range(60)))
        self.same(rests_on(DOUBLING, 30), tuple(range(30)))
        self.same([needless(DOUBLING), trimmed(DOUBLING), mirrored(DOUBLING)], [(), DOUBLING, DOUBLING])

    def test_sixty_boxes_in_a_chain(self):
        self.same([depth_of(CHAIN), lengths(CHAIN)], [60, (1, 1) + tuple(range(2, 62))])
        self.same(word_of(CHAIN, 61), (0,) + (1,) * 60)
        self.same(fans(CHAIN), (1, 60) + (1,) * 60)


class Fans(Case):
    def test_all_nets(self):
        for net in ALL_NETS:
            used = [wire for box in net[1] for wire in box] + list(net[2])
            self.same(fans(net), tuple([used.count(wire) for wire in wires(net)]), net)

    def test_twice_in_a_box_and_twice_an_end(self):
        self.same(fans((2, ((1, 1),), (2, 2, 2, 0))), (1, 2, 3))


class Words(Case):
    def test_up_to_400_places(self):
        for many in (1, 2, 255, 256, 257, 399, 400):
            net = doubled(many)
            self.same(word_of(net, net[2][0]), (0,) * many)

    def test_more_than_400_places(self):
        for many in (401, 402, 500, 511, 512, 799, 800, 2 ** 50 + 1):
            net = doubled(many)
            error = caught(word_of, net, net[2][0])
            self.assertIs(type(error), TooLong)
            self.same(error.given, many)
        for wire in range(61):
            if wire <= 8:
                self.same(word_of(DOUBLING, wire), (0,) * 2 ** wire)
            else:
                error = caught(word_of, net=DOUBLING, wire=wire)
                self.assertIs(type(error), TooLong)
                self.same(error.given, 2 ** wire)

    def test_short_words_beside_long_ones(self):
        self.same([word_of(CROSSED, 12), word_of(CROSSED, 13), word_of(CROSSED, 11)], [(1, 0), (1, 0, 1, 0), (11,)])

    def test_short_boxes_behind_long_ones(self):
        # Long words joined with short ones, either way round, and with long ones, none of them asked for.
        net = (2, tuple([(k + 1 if k else 0, k + 1) for k in range(10)]) + ((11, 1), (1, 11), (12, 13), (1, 0)), (0,))
        self.same([word_of(net, 15), word_of(net, 2)], [(1, 0), (0, 1)])
        self.same([caught(word_of, net, wire).given for wire in (12, 13, 14)], [1025, 1025, 2050])

    def test_a_short_box_behind_a_very_long_one(self):
        net = (2, tuple([(k + 1 if k else 0, k + 1) for k in range(59)]) + ((1, 0),), (61,))
        self.same(word_of(net, 61), (1, 0))


class Stretches(Case):
    def test_just_for_the_words_of_stretches(self):
        met = {True: 0, False: 0}
        for net in ALL_NETS:
            stretches = {tuple(range(i, j + 1)): (i, j) for i in range(net[0]) for j in range(i, net[0])}
            for wire in wires(net):
                due = stretches.get(word(net, wire))
                met[due is None] += 1
                self.same(stretch_of(net, wire), due, (net, wire))
        self.assertTrue(met[True] > 500 and met[False] > 500)

    def test_parts_that_do_not_meet(self):
        net = (4, ((0, 2), (0, 1), (2, 3), (6, 5), (5, 5), (5, 2), (5, 3), (1, 6), (0, 11), (5, 6)), (0,))
        self.same([stretch_of(net, wire) for wire in range(14)],
                  [(0, 0), (1, 1), (2, 2), (3, 3), None, (0, 1), (2, 3), None, None, (0, 2), None, (1, 3), (0, 3), (0, 3)])

    def test_long_words(self):
        for wire in range(1, 61):
            self.assertIsNone(stretch_of(DOUBLING, wire))
        for wire in range(12, 72):
            self.assertIsNone(stretch_of(CROSSED, wire))
        self.same(stretch_of(CROSSED, 4), (4, 4))
        # A stretch beside a long word is none, whichever way round they are joined.
        net = (2, tuple([(k + 1 if k else 0, k + 1) for k in range(57)]) + ((58, 0), (0, 58), (0, 1)), (61,))
        self.same([stretch_of(net, wire) for wire in (58, 59, 60, 61)], [None, None, None, (0, 1)])

    def test_twelve_places(self):
        net = (12, ((0, 1),) + tuple([(k + 12, k + 2) for k in range(10)]), (22,))
        self.same([stretch_of(net, 12 + k) for k in range(11)], [(0, k + 1) for k in range(11)])


class Resting(Case):
    def test_all_nets(self):
        for net in ALL_NETS:
            boxes = range(len(net[1]))
            for wire in wires(net):
                self.same(rests_on(net, wire), tuple([box for box in boxes if rests(net, wire, box)]), (net, wire))
            due = [box for box in boxes if not any([rests(net, end, box) for end in net[2]])]
            self.same(needless(net), tuple(due), net)

    def test_needless_boxes_under_needless_ones(self):
        self.same([needless(UNUSED), rests_on(UNUSED, 6)], [(0, 1, 3), (0, 1, 3)])

    def test_a_box_that_only_a_needless_one_uses(self):
        self.same(needless((1, ((0, 0), (1, 1), (0, 0)), (3,))), (0, 1))
        self.same(needless((1, ((0, 0),) * 60, (0,))), tuple(range(60)))


class Trimmed(Case):
    def test_all_nets(self):
        for net in ALL_NETS:
            told = trimmed(net)
            self.assertTrue(is_net(told))
            kept = [box for box in range(len(net[1])) if any([rests(net, end, box) for end in net[2]])]
            self.assertEqual((told[0], len(told[1]), len(told[2])), (net[0], len(kept), len(net[2])))
            for index, box in enumerate(kept):
                old, new = net[0] + box, net[0] + index
                self.same(word(told, new), word(net, old), net)
            self.same([word(told, end) for end in told[2]], [word(net, end) for end in net[2]])
            self.same(needless(told), ())
            self.same(trimmed(told), told)

    def test_each_wire_is_led_to_what_it_was(self):
        self.same(trimmed(UNUSED), (3, ((0, 1), (3, 2)), (0, 3, 4)))
        self.same(trimmed(ALIKE), (3, ((0, 1), (0, 1), (3, 4), (5, 2)), (4, 3, 6, 6)))
        # Boxes that are alike are not made one.
        self.same(trimmed((2, ((1, 0), (0, 1), (0, 1), (3, 4)), (5, 4))), (2, ((0, 1), (0, 1), (2, 3)), (4, 3)))
        self.same(trimmed((1, ((0, 0),) * 60, (0, 0))), (1, (), (0, 0)))

    def test_nothing_needless(self):
        for net in (PAIR, THREE, FOUR, BACK, TWICE, BARE, WIDE, DOUBLING, CHAIN):
            self.same(trimmed(net), net)


class Mirrored(Case):
    def test_all_nets(self):
        for net in ALL_NETS:
            told, n = mirrored(net), net[0]
            self.assertTrue(is_net(told))
            self.assertEqual((told[0], len(told[1]), len(told[2])), (n, len(net[1]), len(net[2])))
            for wire in wires(net):
                new = n - 1 - wire if wire < n else wire
                self.same(word(told, new), tuple([n - 1 - place for place in reversed(word(net, wire))]))
            self.same(told[2], tuple([n - 1 - end if end < n else end for end in net[2]]))
            self.same(mirrored(told), net)

    def test_by_hand(self):
        self.same(mirrored(FOUR), (4, ((2, 3), (0, 1), (1, 4), (5, 4)), (3, 4, 6, 7)))
        self.same(mirrored(BACK), (2, ((1, 0),), (1, 2)))
        self.same(mirrored(IDLE), (2, ((0, 1), (1, 0)), (1, 2)))


class Errors(Case):
    def test_wrong_nets(self):
        for net in WRONG_NETS:
            for call in OF_NET:
                error = caught(call, net)
                self.assertIs(type(error), InvalidNet, (call, net))
                self.assertIs(error.given, net)
            for call in OF_WIRE:
                for wire in (0, 1, None, -1):
                    error = caught(call, net, wire)
                    self.assertIs(type(error), InvalidNet, (call, net))
                    self.assertIs(error.given, net)
        self.assertIs(type(caught(word_of, wire=Odd(), net=[])), InvalidNet)

    def test_wrong_wires(self):
        for net in (PAIR, FOUR, BARE, WIDE, DOUBLING):
            many = net[0] + len(net[1])
            for wire in [*OTHERS, many, many + 1, -1, -many, 10 ** 399, (), (0,), "0", b"0", [0]]:
                for call in OF_WIRE:
                    error = caught(call, net, wire)
                    self.assertIs(type(error), InvalidWire, (call, wire))
                    self.assertIs(error.given, wire)
                    error = caught(call, wire=wire, net=net)
                    self.assertIs(error.given, wire)

    def test_last_wires(self):
        self.same([rests_on(PAIR, 2), stretch_of(PAIR, 2), word_of(PAIR, 2)], [(0,), (0, 1), (0, 1)])
        self.same([rests_on(BARE, 0), stretch_of(BARE, 0), word_of(BARE, 0)], [(), (0, 0), (0,)])

    def test_only_word_of_refuses_long_words(self):
        for call in OF_NET:
            call(DOUBLING)
        self.same([stretch_of(DOUBLING, 60), rests_on(DOUBLING, 2)], [None, (0, 1)])


if __name__ == "__main__":
    unittest.main()
