import inspect
import unittest
from itertools import product

from runnets import bounds
from runnets.bounds import blocks_of, merged, spare, spine_of, tree_of
from runnets.errors import InvalidNet, NetError, NotRight, NotRunning
from runnets.nets import depth_of, depths, is_net, joins_of, lengths, needless, stretch_of
from runnets.rights import is_right, running_wishes
from tests.right_samples import HEAVY, changed_ladders, halves_nets, right_nets
from tests.samples import (ALIKE, BACK, BARE, CHAIN, CROSSED, DOUBLING, FOUR, IDLE, PAIR, THREE, TWICE, UNUSED, WIDE,
                           caught, drawn_nets, ladder_nets, rests, small_nets, wires, word)
from tests.table_samples import check_errors

CALLS = (tree_of, spine_of, spare, blocks_of, merged)
DOUBLES = (4, ((0, 1), (1, 2), (2, 3), (0, 5), (4, 6)), (0, 4, 7, 8))
TWINS = (2, ((0, 1), (0, 1), (1, 1)), (0, 3))
RIGHT = [PAIR, THREE, FOUR, IDLE, UNUSED, BARE, DOUBLES, TWINS, *ladder_nets(), *halves_nets(), *right_nets()]

# Two boxes of (0, 3), of the depths 3 and 2; the deeper one is the end, the other one is in the tree.
DEEPER = (5, ((0, 1), (5, 2), (6, 3), (2, 3), (5, 8), (9, 4)), (0, 5, 6, 7, 10))
# Two boxes of (1, 4); the less deep one stands last, though boxes of longer stretches stand ahead.
LATER = (6, ((0, 1), (6, 2), (7, 3), (1, 2), (9, 3), (10, 4), (0, 11), (12, 5), (3, 4), (9, 14), (0, 15)),
         (0, 6, 7, 8, 16, 13))


def pair_of(net, box):
    return net[1][box]


class ShownExamples(unittest.TestCase):
    def test_shown(self):
        shown = [tree_of(FOUR), spine_of(FOUR), spare(FOUR), blocks_of(FOUR), tree_of(DOUBLES), spare(DOUBLES)]
        self.assertEqual(shown, [(0, 1, 3), (0, 3), (0, 0, 0), (1, 2), (0, 2, 4), (1, 0, 0)])
        self.assertEqual([len(merged(TWINS)[1]), spare((1, (), (0,))), spare(TWINS)], [1, (0, 0, 0), (2, 0, 0)])
        self.assertIs(type(caught(spare, (2, ((0, 1),), (0, 0)))), NotRight)


class Shapes(unittest.TestCase):
    def test_names_of_arguments(self):
        for call in CALLS:
            self.assertEqual(list(inspect.signature(call).parameters), ["net"])
            self.assertEqual(call.__module__, bounds.__name__)

    def test_by_name(self):
        shown = [call(net=FOUR) for call in CALLS]
        self.assertEqual(shown[:4], [(0, 1, 3), (0, 3), (0, 0, 0), (1, 2)])
        self.assertIs(is_net(shown[4]), True)


class Trees(unittest.TestCase):
    def check(self, net):
        places, _, ends = net
        tree, spine, blocks = tree_of(net), spine_of(net), blocks_of(net)
        boxes = range(len(net[1]))
        for told in (tree, spine, blocks):
            self.assertIs(type(told), tuple)
            self.assertTrue(all([type(number) is int for number in told]))
        self.assertEqual(tree, tuple([box for box in boxes if rests(net, ends[-1], box)]), net)
        self.assertEqual(spine, tuple([box for box in tree if word(net, places + box)[0] == 0]), net)
        self.assertEqual(blocks, tuple([len(word(net, pair_of(net, box)[1])) for box in spine]), net)
        # What [16] tells of them.
        self.assertEqual((len(tree), sum(blocks)), (places - 1, places - 1))
        self.assertEqual(len({stretch_of(net, places + box) for box in tree}), places - 1)
        ahead = [0, *[places + box for box in spine]]
        self.assertEqual([pair_of(net, box)[0] for box in spine], ahead[:-1])
        self.assertEqual(ahead[-1], ends[-1])
        self.assertLessEqual(len(spine), depth_of(net))
        for box in tree:
            users = [other for other in tree if places + box in pair_of(net, other)]
            self.assertEqual(len(users), int(places + box != ends[-1]))

    def test_right_nets(self):
        for net in [*RIGHT, DEEPER, LATER]:
            self.check(net)

    def test_by_hand(self):
        self.assertEqual([tree_of(DEEPER), spine_of(DEEPER), blocks_of(DEEPER)], [(0, 3, 4, 5), (0, 4, 5), (1, 2, 1)])
        self.assertEqual([tree_of(LATER), spine_of(LATER), blocks_of(LATER)], [(3, 4, 5, 6, 7), (6, 7), (4, 1)])
        self.assertEqual([tree_of(TWINS), spine_of(TWINS), blocks_of(TWINS)], [(1,), (1,), (1,)])
        self.assertEqual([tree_of(IDLE), spine_of(IDLE), blocks_of(IDLE)], [(0,), (0,), (1,)])
        row, doubles = ladder_nets()[22:]
        self.assertEqual([tree_of(row), spine_of(row), blocks_of(row)], [tuple(range(11)), tuple(range(11)), (1,) * 11])
        # The last end of 12 places is of 0 to 3, of 4 to 11: of 4 to 7, of 8 to 11.
        self.assertEqual([len(spine_of(doubles)), blocks_of(doubles)], [3, (1, 2, 8)])
        halves = halves_nets()[11]
        self.assertEqual(blocks_of(halves), (1, 1, 3, 6))

    def test_one_place(self):
        heavy = (1, DOUBLING[1], (0,))
        for net in (BARE, heavy, (1, ((0, 0),), (0,))):
            self.assertEqual([tree_of(net), spine_of(net), blocks_of(net), merged(net)], [(), (), (), BARE])

    def test_long_words(self):
        self.assertEqual([tree_of(HEAVY), spine_of(HEAVY), blocks_of(HEAVY)], [(0,), (0,), (1,)])


class Spare(unittest.TestCase):
    def check(self, net):
        places, boxes, ends = net
        told = spare(net)
        tree, spine = tree_of(net), spine_of(net)
        self.assertEqual((type(told), [type(number) for number in told]), (tuple, [int] * 3))
        first = [box for box in range(len(boxes)) if box not in tree and places + box not in ends]
        second = [box for box in spine if places + box not in ends]
        self.assertEqual(told, (len(first), len(second), max(depths(net)) - len(spine)), net)
        self.assertGreaterEqual(min(told), 0)
        self.assertEqual(joins_of(net) + depth_of(net), 2 * places - 2 + sum(told), net)

    def test_right_nets(self):
        for net in [*RIGHT, DEEPER, LATER, HEAVY]:
            self.check(net)
        met = [spare(net) for net in RIGHT]
        for at in range(3):
            self.assertGreater(len([told for told in met if told[at]]), 10)

    def test_all_right_nets_of_up_to_four_boxes(self):
        met = 0
        for places in (2, 3):
            for many in range(places - 1, 5 if places == 2 else 4):
                for boxes in product(*[product(range(places + t), repeat=2) for t in range(many)]):
                    net = (places, boxes, tuple(range(places + many)))
                    found = [[wire for wire in wires(net) if stretch_of(net, wire) == wish]
                             for wish in running_wishes(places)]
                    if all(found) and met < 4000:
                        for ends in list(product(*found))[:4]:
                            self.check((places, boxes, ends))
                            met += 1
        self.assertGreater(met, 1000)

    def test_by_hand(self):
        self.assertEqual([spare(DEEPER), spare(LATER)], [(0, 1, 0), (2, 1, 3)])
        self.assertEqual([spare(IDLE), spare(HEAVY)], [(1, 0, 0), (59, 0, 58)])
        self.assertEqual(spare((1, DOUBLING[1], (0,))), (60, 0, 60))
        row, doubles = ladder_nets()[14:16]
        self.assertEqual([spare(row), spare(doubles), spare(halves_nets()[7])], [(0, 0, 0), (6, 0, 0), (1, 0, 0)])


class Merged(unittest.TestCase):
    def check(self, net):
        told = merged(net)
        self.assertIs(is_net(told), True, net)
        self.assertEqual((told[0], len(told[2])), (net[0], net[0]))
        self.assertIs(is_right(told, running_wishes(net[0]), "any"), True, (net, told))
        found = [stretch_of(told, wire) for wire in wires(told)]
        self.assertNotIn(None, found)
        self.assertEqual(len(set(found)), len(found), (net, told))
        self.assertEqual(needless(told), ())
        self.assertLessEqual(joins_of(told), joins_of(net), (net, told))
        self.assertLessEqual(depth_of(told), depth_of(net), (net, told))
        return told

    def test_right_nets(self):
        for net in [*RIGHT, DEEPER, LATER, HEAVY]:
            self.check(net)

    def test_again(self):
        for net in RIGHT:
            told = merged(net)
            self.assertEqual(self.check(told)[0], net[0])
            self.assertEqual(joins_of(merged(told)), joins_of(told))

    def test_the_less_deep_of_two_boxes(self):
        told = self.check(DEEPER)
        self.assertEqual((depth_of(told), joins_of(told)), (3, 5))
        told = self.check(LATER)
        self.assertLessEqual(depth_of(told), 4)
        # Boxes of one stretch in a row, the least deep one first, last, or between the others.
        for order in ((0, 1, 2), (1, 0, 2), (2, 1, 0), (1, 2, 0), (0, 2, 1), (2, 0, 1)):
            self.check(self.cut_otherwise(order))

    def cut_otherwise(self, order):
        """A net of six places with three boxes of (1, 4), each cut otherwise, all of them needed."""
        boxes = [(0, 1), (6, 2), (7, 3), (1, 2), (2, 3), (3, 4), (9, 3), (1, 10)]
        cuts, found = [(9, 11), (12, 4), (13, 4)], []
        for cut in order:
            boxes.append(cuts[cut])
            found.append(6 + len(boxes) - 1)
        boxes.append((0, found[0]))
        boxes.append((0, found[1]))
        boxes.append((found[2], 5))
        places = 6
        boxes.append((0, places + len(boxes) - 1))
        last = places + len(boxes) - 1
        return (6, tuple(boxes), (0, 6, 7, 8, last - 2, last))

    def test_merged_nets_stay_as_they_are_but_for_the_order(self):
        for net in [PAIR, FOUR, BARE, *ladder_nets(), *halves_nets()]:
            told = self.check(net)
            self.assertEqual((joins_of(told), depth_of(told)), (joins_of(net), depth_of(net)))
            self.assertEqual(sorted([stretch_of(told, wire) for wire in wires(told)]),
                             sorted([stretch_of(net, wire) for wire in wires(net)]))

    def test_by_hand(self):
        self.assertEqual(merged(TWINS), PAIR)
        self.assertEqual(merged(IDLE), PAIR)
        self.assertEqual(merged(HEAVY), PAIR)
        self.assertEqual(merged((3, ((0, 1), (0, 1), (4, 2)), (0, 3, 5))), THREE)


class Errors(unittest.TestCase):
    def test_wrong_nets(self):
        for call in CALLS:
            check_errors(self, call, {"net": PAIR}, {"net": InvalidNet})

    def fails(self, net, raised):
        for call in CALLS:
            for error in (caught(call, net), caught(call, net=net)):
                self.assertEqual((type(error), vars(error)), (raised, {}), (call, net))
                self.assertIsInstance(error, NetError)

    def test_not_running_ahead_of_not_right(self):
        for net in (ALIKE, WIDE, DOUBLING[:2] + ((60, 60),), CHAIN, CROSSED, (2, ((0, 1),), (2,)),
                    (2, ((0, 1),), (0, 2, 2)), (1, (), (0, 0)), (12, (), (0,)), (3, ((0, 1),), (0, 3))):
            self.fails(net, NotRunning)
        for net in drawn_nets():
            if len(net[2]) != net[0]:
                self.fails(net, NotRunning)

    def test_not_right(self):
        for net in (BACK, TWICE, DOUBLING, (2, ((0, 1),), (0, 0)), (2, ((0, 1),), (2, 0)), (2, ((0, 1),), (0, 1)),
                    (2, (), (0, 1)), (3, ((0, 1), (1, 2), (3, 4)), (0, 3, 5)), (2, CHAIN[1], (0, 61)),
                    (12, CROSSED[1], (71,) * 12)):
            self.fails(net, NotRight)
        # One end alone is wrong, first, last or between.
        self.fails((4, FOUR[1], (1, 4, 6, 7)), NotRight)
        self.fails((4, FOUR[1], (0, 4, 5, 7)), NotRight)
        self.fails((4, FOUR[1], (0, 4, 6, 6)), NotRight)

    def test_just_the_right_ones(self):
        met = {True: 0, False: 0}
        nets = []
        for places, boxes, held in small_nets():
            if places < 3:
                nets += [(places, boxes, ends) for ends in product(held, repeat=places)]
        for net in nets + changed_ladders():
            right = is_right(net, running_wishes(net[0]), "any")
            met[right] += 1
            if right:
                for call in CALLS:
                    call(net)
            else:
                self.fails(net, NotRight)
        self.assertTrue(met[True] > 20 and met[False] > 100, met)


class Lengths(unittest.TestCase):
    def test_blocks_are_what_lies_behind(self):
        for net in RIGHT:
            places, boxes, _ = net
            long = lengths(net)
            self.assertEqual(blocks_of(net), tuple([long[boxes[box][1]] for box in spine_of(net)]))


if __name__ == "__main__":
    unittest.main()
