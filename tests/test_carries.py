import inspect
import random
import unittest
from itertools import product

from runnets import carries as module
from runnets.carries import adds_right, carries, miscarry
from runnets.errors import InvalidDigits, InvalidNet, NetError, NotRunning
from runnets.rights import is_right, running_wishes
from tests.right_samples import HEAVY, changed_ladders, halves_nets, right_nets
from tests.samples import (ALIKE, BACK, BARE, CHAIN, CROSSED, DOUBLING, FOUR, IDLE, PAIR, THREE, TWICE, UNUSED, WIDE,
                           caught, drawn_nets, ladder_nets, small_nets, wires, word)
from tests.table_samples import check_errors

ROW3, BACK3 = (3, ((0, 1), (3, 2)), (0, 3, 4)), (3, ((1, 0), (3, 2)), (0, 3, 4))
TWIN3 = (3, ((0, 1), (1, 2), (3, 4)), (0, 3, 5))
ERRORS = {"net": InvalidNet, "one": InvalidDigits, "two": InvalidDigits}
RIGHT = [*ladder_nets(), *halves_nets(), *right_nets(60), HEAVY]


def number(digits):
    return sum([digit << place for place, digit in enumerate(digits)])


def added(one, two):
    """The carry out of each place, told by the sums of whole numbers."""
    return tuple([number(one[:place + 1]) + number(two[:place + 1]) >> place + 1 for place in range(len(one))])


def told(net, one, two):
    """What the ends tell: what the last place of each word does that does not keep."""
    found = []
    for end in net[2]:
        acting = [place for place in word(net, end) if one[place] == two[place]]
        found.append(one[acting[-1]] if acting else 0)
    return tuple(found)


def all_digits(places):
    return list(product(product((0, 1), repeat=places), repeat=2))


def drawn_digits(places, many=25):
    """Summands drawn by a fixed seed, and those of one digit alone."""
    draw = random.Random(places)
    pairs = [tuple([tuple([draw.randint(0, 1) for _ in range(places)]) for _ in range(2)]) for _ in range(many)]
    rows = [(0,) * places, (1,) * places, (1,) + (0,) * (places - 1), (0,) * (places - 1) + (1,)]
    return pairs + list(product(rows, repeat=2))


def running_nets():
    """Nets of up to three places and two boxes with all choices of as many ends, and others."""
    nets = []
    for net in small_nets():
        if net[0] < 3 or len(net[1]) == 2 and len(nets) % 3 == 0:
            nets += [(net[0], net[1], ends) for ends in product(wires(net), repeat=net[0])]
        else:
            nets += [(net[0], net[1], (0, end, wires(net)[-1])) for end in wires(net)[1:]]
    drawn = [(net[0], net[1], (net[2] * 12)[:net[0]]) for net in drawn_nets()]
    return nets + drawn + changed_ladders()


RUNNING = running_nets()


class ShownExamples(unittest.TestCase):
    def test_shown(self):
        shown = [carries(ROW3, (1, 1, 0), (1, 0, 0)), adds_right(ROW3), adds_right(BACK3), adds_right(TWIN3),
                 miscarry(TWIN3)]
        self.assertEqual(shown, [(1, 1, 0), True, False, True, None])
        one, two = miscarry(BACK3)
        self.assertNotEqual(carries(BACK3, one, two), carries(ROW3, one, two))


class Shapes(unittest.TestCase):
    def test_names_of_arguments(self):
        for call, names in [(carries, ["net", "one", "two"]), (adds_right, ["net"]), (miscarry, ["net"])]:
            self.assertEqual(list(inspect.signature(call).parameters), names)
            self.assertEqual(call.__module__, module.__name__)

    def test_by_name(self):
        self.assertEqual(carries(two=(1, 0, 0), net=ROW3, one=(1, 1, 0)), (1, 1, 0))
        self.assertIs(adds_right(net=TWIN3), True)
        self.assertIsNone(miscarry(net=TWIN3))


class Carries(unittest.TestCase):
    def check(self, net, one, two, due):
        found = carries(net, one, two)
        self.assertEqual((type(found), found), (tuple, due), (net, one, two))
        self.assertTrue(all([type(carry) is int for carry in found]))
        self.assertEqual(carries(net, two, one), due)

    def test_right_nets_tell_those_of_adding(self):
        for net in RIGHT:
            for one, two in all_digits(net[0]) if net[0] < 4 else drawn_digits(net[0]):
                self.check(net, one, two, added(one, two))

    def test_nets_right_for_last_alone(self):
        met = 0
        for net in [*RUNNING[::7], TWIN3, TWICE]:
            wishes = running_wishes(net[0])
            if is_right(net, wishes, "last") and not is_right(net, wishes, "any"):
                met += 1
                for one, two in all_digits(net[0]) if net[0] < 4 else drawn_digits(net[0]):
                    self.check(net, one, two, added(one, two))
        self.assertGreater(met, 5)

    def test_all_nets_tell_what_the_last_place_does_that_does_not_keep(self):
        shown = [(net[0], net[1], (net[2] * 12)[:net[0]]) for net in (ALIKE, UNUSED, WIDE, IDLE, FOUR)]
        for net in RUNNING[::3] + shown:
            for one, two in all_digits(net[0]) if net[0] < 3 else drawn_digits(net[0], 10):
                self.check(net, one, two, told(net, one, two))

    def test_by_hand(self):
        # 3 and 1 are 4; 7 and 1 are 8; 5 and 3 are 8; 2 and 2 are 4; 1 and 1, with the place above stopping, are 2.
        self.assertEqual(carries(ROW3, (1, 1, 1), (1, 0, 0)), (1, 1, 1))
        self.assertEqual(carries(ROW3, (1, 0, 1), (1, 1, 0)), (1, 1, 1))
        self.assertEqual(carries(ROW3, (0, 1, 0), (0, 1, 0)), (0, 1, 0))
        self.assertEqual(carries(ROW3, (1, 0, 1), (1, 0, 0)), (1, 0, 0))
        self.assertEqual(carries(ROW3, (0, 0, 1), (0, 0, 1)), (0, 0, 1))
        self.assertEqual(carries(ROW3, (0, 0, 0), (1, 1, 1)), (0, 0, 0))
        # The end of 1 0: place 0 acts last.
        self.assertEqual(carries(BACK, (1, 0), (1, 0)), (1, 1))
        self.assertEqual(carries(PAIR, (1, 0), (1, 0)), (1, 0))
        self.assertEqual(carries(BACK, (0, 1), (0, 1)), (0, 0))
        self.assertEqual([carries(BARE, (a,), (b,)) for a, b in product((0, 1), repeat=2)], [(0,), (0,), (0,), (1,)])

    def test_long_words(self):
        self.assertEqual(carries(DOUBLING, (1,), (1,)), (1,))
        self.assertEqual(carries(DOUBLING, (1,), (0,)), (0,))
        chain = (2, CHAIN[1], (0, 61))
        for one, two in all_digits(2):
            self.check(chain, one, two, added(one, two))
        crossed = (12, CROSSED[1], (71,) * 12)
        for one, two in all_digits(2):
            # The word is 1 0 1 0 .. 1 0.
            due = one[0] if one[0] == two[0] else one[1] if one[1] == two[1] else 0
            self.check(crossed, one + (1,) * 10, two + (1,) * 10, (due,) * 12)


def tells_all(net):
    """Whether the net tells all carries of all summands."""
    return all([told(net, one, two) == added(one, two) for one, two in all_digits(net[0])])


class Adding(unittest.TestCase):
    def check(self, net):
        right = adds_right(net)
        self.assertIs(right, is_right(net, running_wishes(net[0]), "last"), net)
        found = miscarry(net)
        if right:
            self.assertIsNone(found, net)
            return True
        self.assertEqual((type(found), len(found)), (tuple, 2), net)
        for digits in found:
            self.assertEqual((type(digits), len(digits)), (tuple, net[0]))
            self.assertTrue(all([type(digit) is int and digit in (0, 1) for digit in digits]), found)
        self.assertNotEqual(carries(net, *found), added(*found), (net, found))
        return False

    def test_small_nets_against_all_summands(self):
        met = {True: 0, False: 0}
        for net in RUNNING:
            if net[0] < 4 and len(net[1]) < 3:
                right = self.check(net)
                self.assertIs(right, tells_all(net), net)
                met[right] += 1
        self.assertTrue(met[True] > 20 and met[False] > 100, met)

    def test_other_nets(self):
        met = {True: 0, False: 0}
        for net in RUNNING + RIGHT:
            met[self.check(net)] += 1
        self.assertTrue(met[True] > 100 and met[False] > 100, met)

    def test_right_for_any_and_turned(self):
        for net in RIGHT:
            self.assertIs(adds_right(net), True)
            self.assertIsNone(miscarry(net))
        for net in (BACK, BACK3, (2, ((0, 1), (2, 0)), (0, 3)), (2, (), (0, 0)), (2, (), (1, 1)), (3, (), (0, 1, 2))):
            self.assertIs(self.check(net), False)
        for net in (TWICE, TWIN3, IDLE, (2, ((0, 1), (2, 1)), (0, 3)), (2, ((1, 0), (2, 1)), (0, 3))):
            self.assertIs(self.check(net), True)

    def test_each_way_to_be_wrong(self):
        # Each end but the last one is right; that lacks a place, has one behind its wish, or two in the wrong order.
        for places in range(2, 13):
            row, ends = [(0, 1)] + [(places + k, k + 2) for k in range(places - 2)], [0, *range(places, 2 * places - 1)]
            for lacking in range(places):
                boxes, last = list(row), None
                for place in [place for place in range(places) if place != lacking]:
                    if last is None:
                        last = place
                    else:
                        boxes.append((last, place))
                        last = places + len(boxes) - 1
                self.assertIs(self.check((places, tuple(boxes), (*ends[:-1], last))), False)
                self.assertIs(self.check((places, (*row, (lacking, ends[-1])), (*ends[:-1], 2 * places - 1))), True)
                again = (places, (*row, (ends[-1], lacking)), (*ends[:-1], 2 * places - 1))
                self.assertIs(self.check(again), lacking == places - 1)
            for at in range(places - 1):
                for behind in range(at + 1, places):
                    # A place behind the wish ahead of its first place, where no order of places is wrong but its own.
                    net = (places, (*row, (behind, ends[at])), (*ends[:at], 2 * places - 1, *ends[at + 1:]))
                    self.assertIs(self.check(net), False)

    def test_long_words(self):
        self.assertIs(self.check(DOUBLING), True)
        self.assertIs(self.check((2, CHAIN[1], (0, 61))), True)
        self.assertIs(self.check((2, CHAIN[1], (1, 61))), False)
        self.assertIs(self.check((12, CROSSED[1], (71,) * 12)), False)
        doubled = tuple([(k + 2, k + 2) for k in range(59)])
        self.assertIs(self.check((2, ((0, 1), *doubled), (0, 61))), True)
        self.assertIs(self.check((2, ((1, 0), *doubled), (0, 61))), False)
        self.assertIs(self.check((2, ((1, 1), *doubled), (0, 61))), False)


class Errors(unittest.TestCase):
    def test_in_order(self):
        right = {"net": PAIR, "one": (0, 1), "two": (1, 1)}
        check_errors(self, carries, right, ERRORS)
        check_errors(self, carries, {**right, "net": BACK}, ERRORS)
        # NotRunning stands behind all else.
        for ends in ((2,), (0, 1, 2)):
            check_errors(self, carries, {**right, "net": (2, ((0, 1),), ends)}, ERRORS)
        for call in (adds_right, miscarry):
            check_errors(self, call, {"net": PAIR}, ERRORS)

    def test_not_running(self):
        wide = [ALIKE, WIDE, (1, (), (0,) * 24), (12, (), (0,)), (2, CHAIN[1], (61,))]
        for net in (*drawn_nets(), *small_nets(), *wide):
            digits = (0,) * net[0]
            calls = [(carries, {"net": net, "one": digits, "two": digits}), (adds_right, {"net": net}),
                     (miscarry, {"net": net})]
            for call, named in calls:
                if len(net[2]) == net[0]:
                    call(**named)
                else:
                    for error in (caught(call, **named), caught(call, *named.values())):
                        self.assertEqual((type(error), vars(error)), (NotRunning, {}), net)
                        self.assertIsInstance(error, NetError)

    def test_as_many_digits_as_places(self):
        for net in (*ladder_nets(), *[(net[0], net[1], (0,) * (net[0] + 1)) for net in ladder_nets()]):
            for many in range(14):
                for part in ("one", "two"):
                    given = {"one": (0,) * net[0], "two": (1,) * net[0], part: (0,) * many}
                    if many != net[0]:
                        error = caught(carries, net, **given)
                        self.assertIs(type(error), InvalidDigits)
                        self.assertIsNone(error.index)
                    elif len(net[2]) == net[0]:
                        self.assertEqual(carries(net, **given), (0,) * many)
                    given[part] = (0,) * (net[0] - 1) + (2,)
                    self.assertEqual(caught(carries, net, **given).index, net[0] - 1)

    def test_one_ahead_of_two(self):
        error = caught(carries, THREE, (0, 0, 2), (3, 0, 0))
        self.assertEqual((type(error), error.index), (InvalidDigits, 2))
        error = caught(carries, two=None, one=(1, True, 2), net=THREE)
        self.assertEqual((type(error), error.index), (InvalidDigits, 1))


if __name__ == "__main__":
    unittest.main()
