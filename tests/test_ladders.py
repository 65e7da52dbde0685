import inspect
import unittest

from runnets import ladders
from runnets.bounds import spare
from runnets.errors import InvalidName, InvalidNumber
from runnets.ladders import ladder, ladder_counts
from runnets.nets import depth_of, is_net, joins_of, stretch_of
from runnets.rights import is_right, running_wishes
from tests.samples import BARE, OTHERS, PAIR, THREE, caught
from tests.table_samples import check_errors

NAMES = ("row", "halves", "doubles", "pairs")
ERRORS = {"name": InvalidName, "places": InvalidNumber}
# Far and near numbers of places, those about powers of two among them.
COUNTED = sorted({many for power in range(13) for many in range(2 ** power - 3, 2 ** power + 4) if 1 <= many <= 4096}
                 | set(range(1, 131)) | set(range(131, 4097, 211)))


def row_pairs(first, last):
    return [((first, place - 1), (place, place)) for place in range(first + 1, last + 1)]


def halves_pairs(first, last):
    many = last - first + 1
    if many == 1:
        return []
    cut = first + (many + 1) // 2
    own = [((first, cut - 1), (cut, place)) for place in range(cut, last + 1)]
    return halves_pairs(first, cut - 1) + halves_pairs(cut, last) + own


def doubles_pairs(first, last):
    found, step = [], 1
    while step <= last:
        # Behind step t the wire of place k is that of the last 2 t places up to k, or of all from 0 on.
        for place in range(step, last + 1):
            found.append(((max(0, place - 2 * step + 1), place - step), (place - step + 1, place)))
        step *= 2
    return found


def pairs_pairs(first, last):
    """The boxes by pairs of the stretches of one place each, then of the pairs of these, and so on."""
    found, blocks = [], [(place, place) for place in range(first, last + 1)]
    while len(blocks) > 1:
        for at in range(2, len(blocks), 2):
            found.append(((0, blocks[at - 1][1]), blocks[at]))
        paired = [(blocks[at], blocks[at + 1]) for at in range(0, len(blocks) - 1, 2)]
        found += paired
        blocks = [(ahead[0], behind[1]) for ahead, behind in paired]
    return found


PAIRS = {"row": row_pairs, "halves": halves_pairs, "doubles": doubles_pairs, "pairs": pairs_pairs}


class Counted:
    """Wires as their depths, and how many were joined."""

    def __init__(self):
        self.joins = self.depth = 0

    def box(self, ahead, behind):
        self.joins += 1
        self.depth = max(self.depth, 1 + max(ahead, behind))
        return 1 + max(ahead, behind)

    def row(self, rows):
        found = rows[:1]
        for depth in rows[1:]:
            found.append(self.box(found[-1], depth))
        return found

    def halves(self, rows):
        if len(rows) < 2:
            return rows
        cut = len(rows) - len(rows) // 2
        front, back = self.halves(rows[:cut]), self.halves(rows[cut:])
        return front + [self.box(front[-1], depth) for depth in back]

    def doubles(self, rows):
        step = 1
        while step < len(rows):
            rows = [self.box(rows[at - step], rows[at]) if at >= step else rows[at] for at in range(len(rows))]
            step *= 2
        return rows

    def pairs(self, rows):
        if len(rows) < 2:
            return rows
        told = self.pairs([self.box(rows[2 * at], rows[2 * at + 1]) for at in range(len(rows) // 2)])
        return [rows[0] if at == 0 else told[at // 2] if at % 2 else self.box(told[at // 2 - 1], rows[at])
                for at in range(len(rows))]


class ShownExamples(unittest.TestCase):
    def test_shown(self):
        shown = [ladder("row", 3), len(ladder("pairs", 8)[1]), spare(ladder("pairs", 8)), ladder("halves", 1)]
        self.assertEqual(shown, [(3, ((0, 1), (3, 2)), (0, 3, 4)), 11, (0, 0, 1), (1, (), (0,))])

    def test_counts(self):
        shown = [ladder_counts("row", 8), ladder_counts("halves", 8), ladder_counts("doubles", 8),
                 ladder_counts("pairs", 8), ladder_counts("pairs", 4096)[0], ladder_counts("halves", 4096)]
        self.assertEqual(shown, [(7, 7), (12, 3), (17, 3), (11, 4), 8178, (24576, 12)])


class Shapes(unittest.TestCase):
    def test_names_of_arguments(self):
        for call in (ladder, ladder_counts):
            self.assertEqual(list(inspect.signature(call).parameters), ["name", "places"])
            self.assertEqual(call.__module__, ladders.__name__)

    def test_by_name(self):
        self.assertEqual(ladder(places=3, name="row"), THREE)
        self.assertEqual(ladder_counts(places=8, name="pairs"), (11, 4))


class Ladders(unittest.TestCase):
    def check(self, name, places):
        net = ladder(name, places)
        self.assertIs(is_net(net), True)
        self.assertEqual((net[0], len(net[2])), (places, places))
        self.assertIs(is_right(net, running_wishes(places), "any"), True, (name, net))
        told = [(stretch_of(net, ahead), stretch_of(net, behind)) for ahead, behind in net[1]]
        self.assertEqual(sorted(told), sorted(PAIRS[name](0, places - 1)), (name, places))
        self.assertEqual(len(set(net[1])), len(net[1]))
        self.assertEqual(net[2][0], 0)
        self.assertEqual(ladder_counts(name, places), (joins_of(net), depth_of(net)))

    def test_all(self):
        for name in NAMES:
            for places in range(1, 13):
                self.check(name, places)

    def test_one_and_two_places(self):
        for name in NAMES:
            self.assertEqual([ladder(name, 1), ladder(name, 2)], [BARE, PAIR])

    def test_boxes_by_hand(self):
        def told(name, places):
            net = ladder(name, places)
            return sorted([(stretch_of(net, ahead), stretch_of(net, behind)) for ahead, behind in net[1]])
        self.assertEqual(told("row", 4), [((0, 0), (1, 1)), ((0, 1), (2, 2)), ((0, 2), (3, 3))])
        # Five places by halves are three and two.
        self.assertEqual(told("halves", 5), [((0, 0), (1, 1)), ((0, 1), (2, 2)), ((0, 2), (3, 3)), ((0, 2), (3, 4)),
                                             ((3, 3), (4, 4))])
        self.assertEqual(told("doubles", 4), [((0, 0), (1, 1)), ((0, 0), (1, 2)), ((0, 1), (2, 3)), ((1, 1), (2, 2)),
                                              ((2, 2), (3, 3))])
        self.assertEqual(told("pairs", 5), [((0, 0), (1, 1)), ((0, 1), (2, 2)), ((0, 1), (2, 3)), ((0, 3), (4, 4)),
                                            ((2, 2), (3, 3))])


class Counts(unittest.TestCase):
    def test_by_building(self):
        for name in NAMES:
            for places in COUNTED:
                counted = Counted()
                ends = getattr(counted, name)([0] * places)
                told = ladder_counts(name, places)
                self.assertEqual(told, (counted.joins, counted.depth), (name, places))
                self.assertEqual([type(told), type(told[0]), type(told[1])], [tuple, int, int])
                self.assertEqual((len(ends), max(ends)), (places, told[1]))

    def test_other_ways_to_count(self):
        ones = 0
        for places in range(1, 4097):
            if places in COUNTED:
                # By halves there are as many joins as 1s in the binary numbers below places.
                self.assertEqual(ladder_counts("halves", places)[0], ones)
                halvings = [places >> power for power in range(places.bit_length() - 1)]
                self.assertEqual(ladder_counts("pairs", places)[0], sum(halvings) - len(halvings))
                deep = min([d for d in range(13) if 2 ** d >= places])
                steps = [2 ** power for power in range(12) if 2 ** power < places]
                self.assertEqual(ladder_counts("doubles", places), (places * len(steps) - sum(steps), deep))
                self.assertEqual(ladder_counts("halves", places)[1], deep)
                self.assertEqual(ladder_counts("row", places), (places - 1, places - 1))
            ones += bin(places).count("1")

    def test_by_hand(self):
        self.assertEqual([ladder_counts(name, 1) for name in NAMES], [(0, 0)] * 4)
        self.assertEqual([ladder_counts(name, 2) for name in NAMES], [(1, 1)] * 4)
        self.assertEqual([ladder_counts(name, 3) for name in NAMES], [(2, 2), (2, 2), (3, 2), (2, 2)])
        self.assertEqual([ladder_counts(name, 5) for name in NAMES], [(4, 4), (5, 3), (8, 3), (5, 3)])
        # 4096 * 12 - 4095; T(4094) is 2 more than T(2046), .., T(2) + 2 * 10, and T(2) is 2.
        self.assertEqual([ladder_counts(name, 4096) for name in NAMES],
                         [(4095, 4095), (24576, 12), (45057, 12), (8178, 22)])
        self.assertEqual([ladder_counts(name, 4095)[1] for name in NAMES], [4094, 12, 12, 22])
        self.assertEqual([ladder_counts(name, 2048)[1] for name in NAMES], [2047, 11, 11, 20])
        self.assertEqual([ladder_counts(name, 2049)[1] for name in NAMES], [2048, 12, 12, 20])


class Errors(unittest.TestCase):
    def test_in_order(self):
        for name in NAMES:
            check_errors(self, ladder, {"name": name, "places": 12}, ERRORS)

    def test_counts(self):
        wrong = [*OTHERS, 0, -1, 4097, 5000, -4096, 10 ** 399, -10 ** 399, (), (1,), [1], "1", PAIR]
        for name in NAMES:
            for places in wrong:
                for error in (caught(ladder_counts, name, places), caught(ladder_counts, places=places, name=name)):
                    self.assertIs(type(error), InvalidNumber)
                    self.assertIs(error.given, places)
                    self.assertEqual(list(vars(error)), ["given"])
        check_errors(self, lambda name: ladder_counts(name, 4096), {"name": "row"}, ERRORS)
        check_errors(self, lambda name: ladder_counts(name, None), {"name": "row"}, ERRORS)
        check_errors(self, lambda name: ladder_counts(places=0, name=name), {"name": "row"}, ERRORS)

    def test_bounds(self):
        for name in NAMES:
            for places in range(-2, 16):
                if 1 <= places <= 12:
                    self.assertEqual(ladder(name, places)[0], places)
                else:
                    self.assertIs(type(caught(ladder, name, places)), InvalidNumber)
            for places in (13, 4095, 4096):
                self.assertEqual(len(ladder_counts(name, places)), 2)
            for places in (0, 4097):
                self.assertIs(type(caught(ladder_counts, name, places)), InvalidNumber)
            for places in (True, False):
                self.assertIs(type(caught(ladder_counts, name, places)), InvalidNumber)
                self.assertIs(type(caught(ladder, name, places)), InvalidNumber)


if __name__ == "__main__":
    unittest.main()
