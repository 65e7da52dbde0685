import inspect
import random
import unittest
from itertools import product

from runnets import tables
from runnets.errors import InvalidNet, InvalidTable, InvalidWorths
from runnets.rights import is_right, running_wishes
from runnets.tables import breaking_triple, is_join, is_table, kinds_of, run, totals
from tests.samples import (BACK, BARE, CROSSED, DOUBLING, FOUR, KINDS, OTHERS, PAIR, SHOWN, THREE, TWICE, Odd, caught,
                           drawn_nets, form, ladder_nets, small_nets, total, word)
from tests.table_samples import (AFTER, GREATER, NEITHER, ODD, ONE, WRONG_TABLES, all_tables, associative, big_joins,
                                 check_errors, drawn_tables, kinds_held, made, settled)

ROW3, BACK3, TWIN3 = THREE, (3, ((1, 0), (3, 2)), (0, 3, 4)), (3, ((0, 1), (1, 2), (3, 4)), (0, 3, 5))
ALL_SMALL = [table for size in (1, 2, 3) for table in all_tables(size)]
SMALL_JOINS = [table for table in ALL_SMALL if associative(table)]
BIG_JOINS = big_joins()


def wire_worth(net, table, worths, wire):
    """The worth of the wire, by the box that makes it."""
    if wire < net[0]:
        return worths[wire]
    first, second = net[1][wire - net[0]]
    return table[wire_worth(net, table, worths, first)][wire_worth(net, table, worths, second)]


def word_total(table, held, worths):
    """What the word comes to on the table, in order from its first place on."""
    return total(held, worths, lambda x, y: table[x][y])


class ShownExamples(unittest.TestCase):
    def test_joins(self):
        shown = [is_table(((0,),)), is_table(((0, 2), (1, 1))), is_join(AFTER), is_join(NEITHER), breaking_triple(AFTER),
                 breaking_triple(NEITHER) in ((0, 0, 1), (0, 1, 1), (1, 0, 0), (1, 1, 0))]
        self.assertEqual(shown, [True, False, True, False, None, True])

    def test_kinds(self):
        self.assertEqual([kinds_of(GREATER), kinds_of(ODD), kinds_of(AFTER), kinds_of(NEITHER)],
                         [("any", "even", "first", "last", "sets"), ("any", "even", 2, 4, 6, 8), ("any", "last"), ()])

    def test_runs(self):
        shown = [run(ROW3, AFTER, (1, 0, 2)), totals(AFTER, (1, 0, 2)), run(BACK3, AFTER, (1, 2, 0)),
                 totals(AFTER, (1, 2, 0)), run(TWIN3, ODD, (1, 1, 0)), totals(ODD, (1, 1, 0))]
        self.assertEqual(shown, [(1, 1, 2), (1, 1, 2), (1, 1, 1), (1, 2, 2), (1, 0, 1), (1, 0, 0)])


class Shapes(unittest.TestCase):
    def test_names_of_arguments(self):
        for call, names in [(is_table, ["value"]), (is_join, ["table"]), (breaking_triple, ["table"]), (kinds_of, ["table"]),
                            (run, ["net", "table", "worths"]), (totals, ["table", "worths"])]:
            self.assertEqual(list(inspect.signature(call).parameters), names)
            self.assertEqual(call.__module__, tables.__name__)

    def test_by_name(self):
        self.assertIs(is_table(value=ODD), True)
        self.assertIs(is_join(table=ODD), True)
        self.assertIsNone(breaking_triple(table=ODD))
        self.assertEqual(kinds_of(table=AFTER), ("any", "last"))
        self.assertEqual(run(worths=(1, 0, 2), table=AFTER, net=ROW3), (1, 1, 2))
        self.assertEqual(totals(worths=(1, 2, 0), table=AFTER), (1, 2, 2))


class IsTable(unittest.TestCase):
    def test_right_ones(self):
        for table in (*ALL_SMALL[::7], *BIG_JOINS, *drawn_tables(), NEITHER, ONE):
            self.assertIs(is_table(table), True, table)

    def test_one_to_eight_rows(self):
        for size in range(1, 9):
            self.assertIs(is_table(((size - 1,) * size,) * size), True)
            self.assertIs(is_table(((size,) * size,) * size), False)
            self.assertIs(is_table(((0,) * (size + 1),) * size), False)
            self.assertIs(is_table(((0,) * (size - 1),) * size), False)
        self.assertIs(is_table(((0,) * 9,) * 9), False)
        self.assertIs(is_table(()), False)

    def test_wrong_ones(self):
        for table in WRONG_TABLES:
            self.assertIs(is_table(table), False, table)

    def test_one_wrong_part(self):
        for other in [*OTHERS, 3, -1, (0,), "0"]:
            for x, y in product(range(3), repeat=2):
                rows = [list(row) for row in AFTER]
                rows[x][y] = other
                self.assertIs(is_table(tuple([tuple(row) for row in rows])), False, (other, x, y))
            for x in range(3):
                self.assertIs(is_table(AFTER[:x] + (other,) + AFTER[x + 1:]), False, (other, x))


class Joins(unittest.TestCase):
    def check(self, table):
        due, told = associative(table), breaking_triple(table)
        self.assertIs(is_join(table), due, table)
        if due:
            self.assertIsNone(told)
            return
        self.assertEqual((type(told), len(told)), (tuple, 3))
        self.assertTrue(all([type(worth) is int and 0 <= worth < len(table) for worth in told]), told)
        x, y, z = told
        self.assertNotEqual(table[table[x][y]][z], table[x][table[y][z]], table)

    def test_all_small_tables(self):
        for table in ALL_SMALL:
            self.check(table)

    def test_how_many_joins_of_up_to_three_worths(self):
        self.assertEqual([sum([is_join(table) for table in all_tables(size)]) for size in (1, 2, 3)], [1, 8, 113])

    def test_bigger_tables(self):
        for table in (*BIG_JOINS, *drawn_tables()):
            self.check(table)

    def test_tables_that_just_miss(self):
        # One worth of a join is another one, so few triples break it; some are joins again.
        met = {True: 0, False: 0}
        for table in BIG_JOINS[::5]:
            size = len(table)
            x, y = size - 1, size // 2
            rows = [list(row) for row in table]
            rows[x][y] = (rows[x][y] + 1) % size
            changed = tuple([tuple(row) for row in rows])
            self.check(changed)
            met[is_join(changed)] += 1
        self.assertTrue(met[False] > 10 and met[True] > 0, met)


class Kinds(unittest.TestCase):
    def test_small_joins(self):
        for table in SMALL_JOINS:
            self.assertEqual(kinds_of(table), kinds_held(table), table)

    def test_big_joins(self):
        met = {kind: 0 for kind in KINDS}
        for table in BIG_JOINS:
            told = kinds_of(table)
            self.assertEqual(told, kinds_held(table), table)
            for kind in told:
                met[kind] += 1
        self.assertEqual([kind for kind in KINDS if met[kind] < 2], [])

    def test_kinds_are_numbers_and_texts(self):
        for table in (ONE, ODD):
            self.assertEqual({type(kind) for kind in kinds_of(table)}, {int, str})

    def test_no_joins(self):
        for table in (NEITHER, *ALL_SMALL[::11], *drawn_tables()):
            if not associative(table):
                self.assertEqual(kinds_of(table), ())

    def test_laws_without_a_join(self):
        # x y = y x and x x = x, but no join: no kind is had.
        table = ((0, 2, 1), (2, 1, 0), (1, 0, 2))
        self.assertEqual([is_join(table), kinds_of(table)], [False, ()])

    def test_one_worth_has_all(self):
        self.assertEqual(kinds_of(ONE), KINDS)

    def test_by_hand(self):
        self.assertEqual(kinds_of(made(2, lambda x, y: x)), ("any", "first", "ends"))
        self.assertEqual(kinds_of(made(2, lambda x, y: y)), ("any", "last", "ends"))
        self.assertEqual(kinds_of(made(3, lambda x, y: 0)), ("any", "even"))
        self.assertEqual(kinds_of(made(3, lambda x, y: (x + y) % 3)), ("any", "even", 3, 6))
        self.assertEqual(kinds_of(made(8, lambda x, y: (x + y) % 8)), ("any", "even", 8))
        self.assertEqual(kinds_of(made(8, lambda x, y: x ^ y)), ("any", "even", 2, 4, 6, 8))
        self.assertEqual(kinds_of(made(6, lambda x, y: (x + y) % 6)), ("any", "even", 6))
        self.assertEqual(kinds_of(made(4, lambda x, y: x // 2 * 2 + y % 2)), ("any", "ends"))
        self.assertEqual(kinds_of(settled("any")), ("any",))

    def test_like_forms_have_like_worths_on_joins_of_the_kind(self):
        words = [held for many in (1, 2, 3, 4) for held in product(range(2), repeat=many)]
        for table in SMALL_JOINS[::3] + BIG_JOINS[::9]:
            rows = list(product(range(len(table)), repeat=2))
            worths = {held: tuple([word_total(table, held, row) for row in rows]) for held in words}
            for kind in kinds_of(table):
                met = {}
                for held in words:
                    found = met.setdefault(form(held, 2, kind), worths[held])
                    self.assertEqual(found, worths[held], (table, kind, held))


class Runs(unittest.TestCase):
    def rows(self, net, table, many=6):
        draw = random.Random(len(net[1]))
        return [tuple([draw.randrange(len(table)) for _ in range(net[0])]) for _ in range(many)]

    def check(self, net, table, row):
        told = run(net, table, row)
        self.assertIs(type(told), tuple)
        self.assertTrue(all([type(worth) is int for worth in told]), told)
        self.assertEqual(told, tuple([wire_worth(net, table, row, end) for end in net[2]]), (net, table, row))
        return told

    def test_box_by_box(self):
        for table in (ODD, AFTER, NEITHER, ONE, settled("any"), *drawn_tables(8)):
            for net in (*SHOWN, *small_nets()[::5], *drawn_nets(60, 8), *ladder_nets()):
                for row in self.rows(net, table, 3):
                    self.check(net, table, row)

    def test_on_joins_by_words(self):
        for table in BIG_JOINS[::4]:
            for net in (*SHOWN, *small_nets()[::9], *drawn_nets(30, 6)):
                words = [word(net, end) for end in net[2]]
                for row in self.rows(net, table, 2):
                    told = self.check(net, table, row)
                    self.assertEqual(told, tuple([word_total(table, held, row) for held in words]), (net, table, row))

    def test_brackets_count_on_tables_that_are_no_join(self):
        left, right = (3, ((0, 1), (3, 2)), (4,)), (3, ((1, 2), (0, 3)), (4,))
        self.assertEqual([run(left, NEITHER, (0, 0, 1)), run(right, NEITHER, (0, 0, 1))], [(0,), (1,)])
        unlike = [row for row in product(range(2), repeat=3) if run(left, NEITHER, row) != run(right, NEITHER, row)]
        self.assertEqual(unlike, [(0, 0, 1), (0, 1, 1), (1, 0, 0), (1, 1, 0)])

    def test_the_first_wire_is_ahead(self):
        ahead = made(2, lambda x, y: x)
        self.assertEqual([run(PAIR, ahead, (0, 1)), run(BACK, ahead, (0, 1)), run(PAIR, AFTER, (1, 2)),
                          run(BACK, AFTER, (1, 2))], [(0, 0), (0, 1), (1, 2), (1, 1)])

    def test_without_boxes(self):
        self.assertEqual([run(BARE, ONE, (0,)), run((3, (), (2, 0, 2)), AFTER, (0, 1, 2))], [(0,), (2, 0, 2)])

    def test_right_nets_tell_the_totals_on_all_tables_of_the_kind(self):
        nets = [PAIR, BACK, TWICE, ROW3, BACK3, TWIN3, FOUR]
        for table in SMALL_JOINS[::4] + BIG_JOINS[::15]:
            for kind in kinds_of(table):
                for net in nets:
                    if is_right(net, running_wishes(net[0]), kind):
                        for row in list(product(range(len(table)), repeat=net[0]))[::5]:
                            self.assertEqual(run(net, table, row), totals(table, row), (net, table, row))

    def test_long_words(self):
        for many in range(2, 9):
            table = made(many, lambda x, y: (x + y) % many)
            self.assertEqual(run(DOUBLING, table, (1,)), (2 ** 60 % many,))
            row = (many - 1, 1) + (0,) * 10
            self.assertEqual(run(CROSSED, table, row), (many - 1, 0))
        self.assertEqual(run(CROSSED, AFTER, (1, 2) + (0,) * 10), (1, 1))
        for table in drawn_tables():
            for worth in range(len(table)):
                due = worth
                for _ in range(60):
                    due = table[due][due]
                self.assertEqual(run(DOUBLING, table, (worth,)), (due,))


class Totals(unittest.TestCase):
    def test_joins_and_others(self):
        draw = random.Random(3)
        for table in (ONE, ODD, AFTER, NEITHER, *BIG_JOINS[::10], *drawn_tables(20)):
            for many in range(1, 13):
                row = tuple([draw.randrange(len(table)) for _ in range(many)])
                told = totals(table, row)
                self.assertEqual((type(told), len(told), told[0]), (tuple, many, row[0]))
                for at in range(1, many):
                    self.assertEqual(told[at], table[told[at - 1]][row[at]], (table, row))
                self.assertEqual(told, tuple([word_total(table, tuple(range(at + 1)), row) for at in range(many)]))

    def test_by_hand(self):
        self.assertEqual(totals(NEITHER, (0, 0, 0, 1)), (0, 1, 0, 0))
        self.assertEqual(totals(made(3, lambda x, y: (x - y) % 3), (0, 1, 1, 2)), (0, 2, 1, 2))
        self.assertEqual(totals(made(3, lambda x, y: (x + y) % 3), (2,) * 12), (2, 1, 0) * 4)

    def test_a_row_of_joins_tells_them_on_any_table(self):
        for net in ladder_nets()[::2]:
            for table in (NEITHER, *drawn_tables(20)):
                row = tuple([place % len(table) for place in range(net[0])])
                self.assertEqual(run(net, table, row), totals(table, row), (net, table))


class Errors(unittest.TestCase):
    ERRORS = {"net": InvalidNet, "table": InvalidTable, "worths": InvalidWorths}

    def test_tables(self):
        for call in (is_join, breaking_triple, kinds_of):
            check_errors(self, call, {"table": ODD}, self.ERRORS)

    def test_run(self):
        check_errors(self, run, {"net": PAIR, "table": ODD, "worths": (0, 1)}, self.ERRORS)
        check_errors(self, run, {"net": BACK, "table": NEITHER, "worths": (0, 0)}, self.ERRORS)

    def test_tables_of_totals(self):
        for table in WRONG_TABLES:
            for worths in ((0,), None, (9,)):
                error = caught(totals, table, worths)
                self.assertIs(type(error), InvalidTable)
                self.assertIs(error.given, table)

    def test_worths_of_totals(self):
        wrong = [(None, value) for value in [*OTHERS, 0, (), (0,) * 13, (0,) * 400, [0], [0, 1]]]
        wrong += [(0, (2,)), (0, (-1,)), (1, (0, 2)), (11, (0,) * 11 + (2,)), (3, (0, 1, 1, True, 2)), (0, (False,)),
                  (2, (1, 1, None)), (1, (0, (0,))), (0, ("0", 0)), (1, (1, Odd())), (0, (10 ** 399, 1))]
        for due, worths in wrong:
            for error in (caught(totals, ODD, worths), caught(totals, worths=worths, table=NEITHER)):
                self.assertIs(type(error), InvalidWorths, worths)
                self.assertEqual((type(error.index), error.index), (type(due), due), worths)

    def test_worths_of_the_table_that_was_passed(self):
        for size in range(1, 9):
            table = made(size, max)
            self.assertEqual(run(PAIR, table, (0, size - 1)), (0, size - 1))
            self.assertEqual(totals(table, (size - 1,)), (size - 1,))
            self.assertEqual(caught(run, PAIR, table, (0, size)).index, 1)
            self.assertEqual(caught(totals, table, (0, 0, size)).index, 2)

    def test_as_many_worths_as_places(self):
        for net in ladder_nets():
            for many in range(14):
                if many == net[0]:
                    self.assertEqual(run(net, ODD, (0,) * many), (0,) * many)
                else:
                    error = caught(run, net, ODD, (0,) * many)
                    self.assertEqual((type(error), error.index), (InvalidWorths, None))

    def test_equal_calls_have_equal_results(self):
        self.assertEqual(breaking_triple(NEITHER), breaking_triple(tuple([tuple(list(row)) for row in NEITHER])))


if __name__ == "__main__":
    unittest.main()
