import inspect
import random
import unittest
from itertools import product

from runnets import marked
from runnets.errors import InvalidMarks, InvalidNet, InvalidTable, InvalidWorths
from runnets.marked import begun_anew, marked_table
from runnets.rights import is_right, running_wishes, settling_table, test_rows
from runnets.tables import is_join, is_table, run, totals
from tests.samples import (BACK, BARE, CROSSED, DOUBLING, FOUR, PAIR, SHOWN, THREE, TWICE, caught, drawn_nets,
                           ladder_nets, small_nets, wires)
from tests.table_samples import (AFTER, GREATER, NEITHER, ODD, ONE, all_tables, associative, big_joins, check_errors,
                                 drawn_tables, made)

ERRORS = {"net": InvalidNet, "table": InvalidTable, "worths": InvalidWorths, "marks": InvalidMarks}
JOINS = [table for table in big_joins() if len(table) <= 4]
OTHERS = [table for table in drawn_tables(120) if len(table) <= 4 and not associative(table)]
TABLES = [*all_tables(1), *all_tables(2), *all_tables(3)[::13], *JOINS, *OTHERS]


def anew(table, worths, marks):
    """What the places from the last mark up to each place come to, from place 0 if there is none."""
    found = []
    for place in range(len(worths)):
        begin = max([other for other in range(place + 1) if marks[other]], default=0)
        told = worths[begin]
        for worth in worths[begin + 1:place + 1]:
            told = table[told][worth]
        found.append(told)
    return tuple(found)


def rows(many, size, most=40):
    """Rows of worths and marks: all of them, or drawn ones where these are more."""
    held = list(product(product(range(size), repeat=many), product((0, 1), repeat=many))) if many < 4 else None
    if held is not None and len(held) <= most:
        return held
    draw = random.Random(many * 10 + size)
    return [(tuple([draw.randrange(size) for _ in range(many)]), tuple([int(draw.random() < 0.3) for _ in range(many)]))
            for _ in range(most)]


class ShownExamples(unittest.TestCase):
    def test_shown(self):
        shown = [marked_table(ODD), begun_anew(THREE, ODD, (1, 1, 1), (0, 1, 0)),
                 begun_anew(THREE, AFTER, (1, 0, 2), (0, 1, 0))]
        self.assertEqual(shown, [((0, 1, 2, 3), (1, 0, 2, 3), (2, 3, 2, 3), (3, 2, 2, 3)), (1, 1, 0), (1, 0, 2)])


class Shapes(unittest.TestCase):
    def test_names_of_arguments(self):
        self.assertEqual(list(inspect.signature(marked_table).parameters), ["table"])
        self.assertEqual(list(inspect.signature(begun_anew).parameters), ["net", "table", "worths", "marks"])
        for call in (marked_table, begun_anew):
            self.assertEqual(call.__module__, marked.__name__)

    def test_by_name(self):
        self.assertEqual(marked_table(table=ONE), ((0, 1), (1, 1)))
        self.assertEqual(begun_anew(marks=(0, 1, 0), worths=(1, 0, 2), table=AFTER, net=THREE), (1, 0, 2))


class MarkedTables(unittest.TestCase):
    def check(self, table):
        size, told = len(table), marked_table(table)
        self.assertEqual(len(told), 2 * size)
        self.assertIs(is_table(told), True)
        for x, y in product(range(size), repeat=2):
            self.assertEqual(told[x][y], table[x][y])
            self.assertEqual(told[size + x][y], size + table[x][y])
            self.assertEqual([told[x][size + y], told[size + x][size + y]], [size + y, size + y])
        self.assertIs(is_join(told), associative(table), table)

    def test_one_to_four_worths(self):
        for table in TABLES:
            self.check(table)
        for joins in (JOINS, OTHERS):
            self.assertEqual({len(table) for table in joins} | {1}, {1, 2, 3, 4})

    def test_by_hand(self):
        self.assertEqual(marked_table(ONE), ((0, 1), (1, 1)))
        self.assertEqual(marked_table(NEITHER), ((1, 0, 2, 3), (0, 0, 2, 3), (3, 2, 2, 3), (2, 2, 2, 3)))
        self.assertEqual(marked_table(AFTER)[4], (4, 4, 5, 3, 4, 5))

    def test_errors(self):
        more = [made(size, max) for size in range(5, 9)]
        check_errors(self, marked_table, {"table": ODD}, ERRORS, {"table": more})


class BegunAnew(unittest.TestCase):
    def check(self, net, table, worths, marks):
        told = begun_anew(net, table, worths, marks)
        self.assertEqual((type(told), told), (tuple, anew(table, worths, marks)), (net, table, worths, marks))
        self.assertTrue(all([type(worth) is int for worth in told]))

    def test_right_nets_on_joins(self):
        for net in [PAIR, THREE, FOUR, *ladder_nets()]:
            for table in JOINS[::3]:
                for worths, marks in rows(net[0], len(table)):
                    self.check(net, table, worths, marks)

    def test_all_worths_and_marks(self):
        for net in (BARE, PAIR, THREE, (3, ((1, 2), (0, 1), (0, 3)), (0, 4, 5))):
            for table in (GREATER, ODD, AFTER):
                for worths in product(range(len(table)), repeat=net[0]):
                    for marks in product((0, 1), repeat=net[0]):
                        self.check(net, table, worths, marks)

    def test_no_marks_and_all_marks(self):
        for net in (*SHOWN, *small_nets()[::7], *drawn_nets(60, 8)):
            for table in TABLES[::9]:
                worths = tuple([place % len(table) for place in range(net[0])])
                self.assertEqual(begun_anew(net, table, worths, (0,) * net[0]), run(net, table, worths))
                last = made(len(table), lambda x, y: y)
                self.assertEqual(begun_anew(net, table, worths, (1,) * net[0]), run(net, last, worths))

    def test_a_mark_at_place_0_changes_no_total(self):
        for net in ladder_nets():
            for table in JOINS[::4]:
                worths = tuple([(place + 1) % len(table) for place in range(net[0])])
                told = begun_anew(net, table, worths, (1,) + (0,) * (net[0] - 1))
                self.assertEqual(told, totals(table, worths))

    def test_by_hand(self):
        row = ladder_nets()[12]
        self.assertEqual(row[0], 7)
        worths = (1, 1, 0, 1, 1, 1, 1)
        self.assertEqual(begun_anew(row, ODD, worths, (0, 0, 0, 0, 0, 0, 0)), (1, 0, 0, 1, 0, 1, 0))
        self.assertEqual(begun_anew(row, ODD, worths, (1, 0, 0, 0, 0, 0, 0)), (1, 0, 0, 1, 0, 1, 0))
        self.assertEqual(begun_anew(row, ODD, worths, (0, 1, 0, 0, 1, 0, 0)), (1, 1, 1, 0, 1, 0, 1))
        self.assertEqual(begun_anew(row, ODD, worths, (0, 0, 0, 0, 0, 0, 1)), (1, 0, 0, 1, 0, 1, 1))
        self.assertEqual(begun_anew(row, ODD, worths, (1, 1, 1, 1, 1, 1, 1)), worths)

    def test_any_net_on_any_table_is_run_on_the_marked_one(self):
        for net in (*SHOWN, *small_nets()[::5], *drawn_nets(60, 8)):
            for table in TABLES[::17]:
                size, table2 = len(table), marked_table(table)
                for worths, marks in rows(net[0], size, 4):
                    held = tuple([worth + size * mark for worth, mark in zip(worths, marks)])
                    due = tuple([worth % size for worth in run(net, table2, held)])
                    self.assertEqual(begun_anew(net, table, worths, marks), due, (net, table, worths, marks))

    def test_no_other_running_net_does(self):
        # Words with other counts are told apart by "even", those with all places once in another order by "last".
        met = 0
        for net in small_nets():
            places = net[0]
            for ends in product(wires(net), repeat=places):
                one = (places, net[1], ends)
                wrong = False
                for kind in ("even", "last"):
                    for worths in test_rows(kind, places):
                        told = begun_anew(one, settling_table(kind), worths, (0,) * places)
                        wrong = wrong or told != totals(settling_table(kind), worths)
                self.assertIs(wrong, not is_right(one, running_wishes(places), "any"), one)
                met += not wrong
        self.assertGreater(met, 5)

    def test_nets_with_another_number_of_ends(self):
        self.assertEqual(begun_anew((3, ((0, 1), (3, 2)), (4,)), ODD, (1, 1, 1), (0, 1, 0)), (0,))
        self.assertEqual(begun_anew((2, (), (1, 0, 1, 1)), AFTER, (1, 2), (0, 1)), (2, 1, 2, 2))

    def test_unright_nets(self):
        self.assertEqual(begun_anew(BACK, ODD, (1, 1), (0, 1)), (1, 0))
        self.assertEqual(begun_anew(BACK, AFTER, (1, 2), (1, 0)), (1, 1))
        self.assertEqual(begun_anew(TWICE, ODD, (1, 1), (0, 1)), (1, 1))

    def test_long_words(self):
        for table in (ODD, AFTER, NEITHER, *OTHERS):
            for worth in range(len(table)):
                self.assertEqual(begun_anew(DOUBLING, table, (worth,), (1,)), (worth,))
                self.assertEqual(begun_anew(DOUBLING, table, (worth,), (0,)), run(DOUBLING, table, (worth,)))
        rest = (0,) * 10
        for table in (ODD, AFTER, *JOINS[::5]):
            for one, two in product(range(len(table)), repeat=2):
                # The word is 1 0 1 0 .. 1 0.
                self.assertEqual(begun_anew(CROSSED, table, (one, two) + rest, (1, 0) + rest), (one, one))
                self.assertEqual(begun_anew(CROSSED, table, (one, two) + rest, (0, 1) + rest), (one, table[two][one]))
                self.assertEqual(begun_anew(CROSSED, table, (one, two) + rest, (1, 1) + rest), (one, one))
                self.assertEqual(begun_anew(CROSSED, table, (one, two) + rest, (0, 0) + rest),
                                 run(CROSSED, table, (one, two) + rest))


class Errors(unittest.TestCase):
    def test_in_order(self):
        more = {"table": [made(size, max) for size in range(5, 9)]}
        right = {"net": PAIR, "table": ODD, "worths": (0, 1), "marks": (1, 0)}
        check_errors(self, begun_anew, right, ERRORS, more)
        check_errors(self, begun_anew, {**right, "net": BACK, "table": NEITHER}, ERRORS, more)

    def test_worths_with_marks_are_no_worths(self):
        for size in range(1, 5):
            table = made(size, max)
            self.assertEqual(begun_anew(PAIR, table, (size - 1, 0), (0, 1)), (size - 1, 0))
            error = caught(begun_anew, PAIR, table, (0, size), (0, 0))
            self.assertEqual((type(error), error.index), (InvalidWorths, 1))

    def test_up_to_four_worths(self):
        for size in range(1, 9):
            table = made(size, min)
            if size <= 4:
                self.assertEqual(len(marked_table(table)), 2 * size)
                self.assertEqual(begun_anew(BARE, table, (0,), (1,)), (0,))
            else:
                for error in (caught(marked_table, table), caught(begun_anew, BARE, table, None, None)):
                    self.assertIs(type(error), InvalidTable)
                    self.assertIs(error.given, table)

    def test_as_many_marks_as_places(self):
        for net in ladder_nets():
            for many in range(14):
                for part in ("worths", "marks"):
                    given = {"worths": (0,) * net[0], "marks": (1,) * net[0], part: (0,) * many}
                    if many == net[0]:
                        self.assertEqual(begun_anew(net, ODD, **given), (0,) * many)
                    else:
                        error = caught(begun_anew, net, ODD, **given)
                        self.assertIs(type(error), ERRORS[part])
                        self.assertIsNone(error.index)


if __name__ == "__main__":
    unittest.main()
