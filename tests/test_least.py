import inspect
import unittest
from itertools import combinations
from math import factorial

from runnets import least
from runnets.bounds import blocks_of, spare
from runnets.errors import InvalidNumber
from runnets.ladders import ladder
from runnets.least import leaves_within, least_joins, least_net, net_of_blocks, widest
from runnets.nets import depth_of, depths, is_net, joins_of
from runnets.rights import is_right, running_wishes
from tests.right_samples import halves_nets, right_nets
from tests.samples import BARE, PAIR, caught, ladder_nets
from tests.table_samples import check_errors

ERRORS = {"left": InvalidNumber, "height": InvalidNumber, "depth": InvalidNumber, "places": InvalidNumber}


def choose(many, some):
    return factorial(many) // factorial(some) // factorial(many - some) if some <= many else 0


def fibonacci(at):
    found = [0, 1]
    while len(found) <= at:
        found.append(found[-1] + found[-2])
    return found[at]


def least_depth(places, held):
    """The least depth of the ends, if boxes may have just these stretches and each is made as shallow as can be."""
    deep = {(place, place): 0 for place in range(places)}
    for first, last in sorted(held, key=lambda stretch: stretch[1] - stretch[0]):
        ways = [1 + max(deep[first, cut], deep[cut + 1, last]) for cut in range(first, last)
                if (first, cut) in deep and (cut + 1, last) in deep]
        if not ways:
            return None
        deep[first, last] = min(ways)
    return max(deep.values())


def searched(places):
    """By depth the least number of joins, from searching all sets of stretches, fewer ahead of more."""
    ends = [(0, place) for place in range(1, places)]
    others = [(first, last) for first in range(1, places) for last in range(first + 1, places)]
    found = {}
    for many in range(len(others) + 1):
        for more in combinations(others, many):
            deep = least_depth(places, ends + list(more))
            if deep is not None:
                for depth in range(deep, places + 2):
                    found.setdefault(depth, len(ends) + many)
        if (places - 1).bit_length() in found:
            return found


class ShownExamples(unittest.TestCase):
    def test_numbers(self):
        shown = [leaves_within(2, 4), leaves_within(0, 9), leaves_within(7, 3), widest(0), widest(1), widest(3), widest(4),
                 widest(5)]
        self.assertEqual(shown, [11, 1, 8, 1, 2, 7, 12, 20])

    def test_joins(self):
        shown = [least_joins(4, 2), least_joins(4, 3), least_joins(7, 3), least_joins(8, 3), least_joins(8, 4),
                 least_joins(12, 4), least_joins(5, 2), least_joins(1, 0)]
        self.assertEqual(shown, [4, 3, 9, 12, 10, 18, None, 0])

    def test_nets(self):
        shown = [spare(least_net(7, 3)), blocks_of(least_net(7, 3)), least_net(9, 3), len(least_net(8, 3)[1])]
        self.assertEqual(shown, [(0, 0, 0), (1, 2, 3), None, 12])


class Shapes(unittest.TestCase):
    def test_names_of_arguments(self):
        for call, names in [(leaves_within, ["left", "height"]), (widest, ["depth"]), (least_joins, ["places", "depth"]),
                            (least_net, ["places", "depth"])]:
            self.assertEqual(list(inspect.signature(call).parameters), names)
            self.assertEqual(call.__module__, least.__name__)

    def test_by_name(self):
        self.assertEqual([leaves_within(height=4, left=2), widest(depth=4), least_joins(depth=2, places=4)], [11, 12, 4])
        self.assertEqual(least_net(depth=60, places=1), BARE)


class Leaves(unittest.TestCase):
    def test_all(self):
        for left in range(61):
            for height in range(61):
                told = leaves_within(left, height)
                self.assertEqual((type(told), told), (int, sum([choose(height, k) for k in range(left + 1)])))

    def test_by_hand(self):
        self.assertEqual([leaves_within(0, 0), leaves_within(60, 0), leaves_within(0, 60), leaves_within(60, 60)],
                         [1, 1, 1, 2 ** 60])
        self.assertEqual([leaves_within(59, 60), leaves_within(1, 60), leaves_within(3, 5)], [2 ** 60 - 1, 61, 26])

    def test_two_sums_make_one(self):
        for left in range(1, 61):
            for height in range(1, 61):
                self.assertEqual(leaves_within(left, height),
                                 leaves_within(left, height - 1) + leaves_within(left - 1, height - 1))


class Widest(unittest.TestCase):
    def test_all(self):
        for depth in range(61):
            told = widest(depth)
            self.assertEqual((type(told), told), (int, fibonacci(depth + 3) - 1))
            blocks = [leaves_within(depth - index + 1, index - 1) for index in range(1, depth + 1)]
            self.assertEqual(told, 1 + sum(blocks))

    def test_by_hand(self):
        self.assertEqual([widest(depth) for depth in range(8)], [1, 2, 4, 7, 12, 20, 33, 54])
        self.assertEqual(widest(60), 6557470319841)


class LeastJoins(unittest.TestCase):
    def test_all(self):
        for places in range(1, 13):
            for depth in range(61):
                told = least_joins(places, depth)
                if 2 ** depth < places:
                    due = None
                elif depth >= places - 1:
                    due = places - 1
                elif (places, depth) == (8, 3):
                    due = 12
                else:
                    self.assertLessEqual(places, fibonacci(depth + 3) - 1)
                    due = 2 * places - 2 - depth
                self.assertEqual((type(told), told), (type(due), due), (places, depth))

    def test_against_a_search(self):
        for places in range(1, 9):
            found = searched(places)
            for depth in range(places + 2):
                self.assertEqual(least_joins(places, depth), found.get(depth), (places, depth))

    def test_no_net_has_fewer(self):
        for net in [*right_nets(), *ladder_nets(), *halves_nets()]:
            self.assertLessEqual(least_joins(net[0], depth_of(net)), joins_of(net))

    def test_by_hand(self):
        self.assertEqual([least_joins(12, depth) for depth in range(13)],
                         [None, None, None, None, 18, 17, 16, 15, 14, 13, 12, 11, 11])
        self.assertEqual([least_joins(8, depth) for depth in range(9)], [None, None, None, 12, 10, 9, 8, 7, 7])
        self.assertEqual([least_joins(2, depth) for depth in range(4)], [None, 1, 1, 1])
        self.assertEqual([least_joins(1, depth) for depth in (0, 1, 60)], [0, 0, 0])
        self.assertEqual([least_joins(12, 60), least_joins(2, 60)], [11, 1])


class LeastNets(unittest.TestCase):
    def check(self, places, depth):
        net, joins = least_net(places, depth), least_joins(places, depth)
        if joins is None:
            self.assertIsNone(net)
            return
        self.assertIs(is_net(net), True, (places, depth))
        self.assertEqual((net[0], len(net[2])), (places, places))
        self.assertIs(is_right(net, running_wishes(places), "any"), True, net)
        self.assertEqual(joins_of(net), joins)
        self.assertLessEqual(depth_of(net), depth)
        if (places, depth) != (8, 3):
            self.check_blocks(net, depth)

    def check_blocks(self, net, depth):
        """What [18] tells of nets with nothing spare."""
        deep = depth_of(net)
        self.assertEqual((deep, spare(net)), (min(depth, net[0] - 1), (0, 0, 0)))
        blocks = blocks_of(net)
        self.assertEqual((len(blocks), sum(blocks)), (deep, net[0] - 1))
        for index, many in enumerate(blocks, 1):
            self.assertTrue(1 <= many <= leaves_within(deep - index + 1, index - 1), net)
        at = 0
        for index, many in enumerate(blocks, 1):
            at += many
            self.assertEqual(depths(net)[net[2][at]], index)

    def test_all(self):
        for places in range(1, 13):
            for depth in range(61):
                self.check(places, depth)

    def test_the_blocks_of_more_places_than_nets_have(self):
        # With up to 12 places most blocks are too small to be cut where the depth is scarce.
        for deep in range(9):
            for places in sorted({deep + 1, widest(deep), (deep + 1 + widest(deep)) // 2, max(deep + 1, widest(deep) - 1)}):
                _, boxes, ends = net_of_blocks(places, deep)
                found = [(place, place, 0) for place in range(places)]
                for ahead, behind in boxes:
                    self.assertEqual(found[ahead][1] + 1, found[behind][0])
                    found.append((found[ahead][0], found[behind][1], 1 + max(found[ahead][2], found[behind][2])))
                self.assertEqual([found[end][:2] for end in ends], [(0, place) for place in range(places)])
                self.assertEqual(max([depth for _, _, depth in found]), deep)
                self.assertEqual(len(boxes), 2 * places - 2 - deep)

    def test_by_hand(self):
        self.assertEqual([least_net(1, 0), least_net(2, 1), least_net(2, 60)], [BARE, PAIR, PAIR])
        self.assertEqual([least_net(2, 0), least_net(3, 1), least_net(5, 2), least_net(9, 3)], [None] * 4)
        self.assertEqual([blocks_of(least_net(4, 2)), blocks_of(least_net(12, 4))], [(1, 2), (1, 2, 4, 4)])
        self.assertEqual((joins_of(least_net(8, 3)), depth_of(least_net(8, 3))), (12, 3))
        self.assertEqual(sorted(least_net(5, 4)[1]), sorted(ladder("row", 5)[1]))


class Errors(unittest.TestCase):
    def test_in_order(self):
        check_errors(self, leaves_within, {"left": 0, "height": 60}, ERRORS)
        check_errors(self, leaves_within, {"left": 60, "height": 0}, ERRORS)
        check_errors(self, widest, {"depth": 3}, ERRORS)
        for places, depth in ((12, 60), (1, 0), (9, 3), (8, 3)):
            for call in (least_joins, least_net):
                check_errors(self, call, {"places": places, "depth": depth}, ERRORS)

    def test_bounds(self):
        for number in (-1, 61, True, False):
            for error in (caught(leaves_within, number, 0), caught(leaves_within, 0, number), caught(widest, number),
                          caught(least_joins, 1, number), caught(least_net, 12, number)):
                self.assertIs(type(error), InvalidNumber)
                self.assertIs(error.given, number)
        for number in (0, 13, True):
            for error in (caught(least_joins, number, 60), caught(least_net, number, 0)):
                self.assertIs(type(error), InvalidNumber)
                self.assertIs(error.given, number)
        for number in (0, 60):
            self.assertGreaterEqual(min(leaves_within(number, 0), leaves_within(0, number), widest(number)), 1)
            self.assertEqual((least_joins(1, number), least_net(1, number)), (0, BARE))


if __name__ == "__main__":
    unittest.main()
