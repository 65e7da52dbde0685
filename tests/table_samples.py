"""Tables and wrong arguments for the tests, and plain ways to tell what tables are."""

import random
from itertools import product

from tests.samples import KINDS, OTHERS, PAIR, WRONG_KINDS, WRONG_NETS, Odd, caught

GREATER, ODD = ((0, 1), (1, 1)), ((0, 1), (1, 0))
AFTER, NEITHER = ((0, 1, 2), (1, 1, 2), (2, 1, 2)), ((1, 0), (0, 0))
ONE = ((0,),)


def made(size, join):
    return tuple([tuple([join(x, y) for y in range(size)]) for x in range(size)])


def all_tables(size):
    """All tables of the size."""
    rows = list(product(range(size), repeat=size))
    return [tuple(table) for table in product(rows, repeat=size)]


def drawn_tables(many=60):
    """Tables of one to eight worths drawn by fixed seeds."""
    tables = []
    for seed in range(many):
        draw = random.Random(seed)
        size = draw.randint(1, 8)
        tables.append(made(size, lambda x, y: draw.randrange(size)))
    return tables


def settled(kind):
    """The settling table of the kind, made by the rules that the document tells."""
    if kind == "any":
        return made(5, lambda x, y: x + y if 0 in (x, y) else 3 if (x, y) == (1, 2) else 4)
    if kind == "even":
        return made(3, lambda x, y: x + y if 0 in (x, y) else 2)
    if kind == "first":
        return made(3, lambda x, y: y if x == 0 else x)
    if kind == "last":
        return made(3, lambda x, y: x if y == 0 else y)
    if kind == "sets":
        return made(2, max)
    if kind == "ends":
        return made(4, lambda x, y: (2 if x in (2, 3) else 0) + (1 if y in (1, 3) else 0))
    return made(kind, lambda x, y: (x + y) % kind)


def renamed(table, names):
    """The table with the worth names[x] in the place of each worth x."""
    size = len(table)
    rows = [[0] * size for _ in range(size)]
    for x, y in product(range(size), repeat=2):
        rows[names[x]][names[y]] = names[table[x][y]]
    return tuple([tuple(row) for row in rows])


def paired(one, two):
    """The table of pairs of worths, each part joined by its own table."""
    many = len(two)
    return made(len(one) * many, lambda x, y: one[x // many][y // many] * many + two[x % many][y % many])


def associative(table):
    worths = range(len(table))
    return all([table[table[x][y]][z] == table[x][table[y][z]] for x, y, z in product(worths, repeat=3)])


def big_joins():
    """Joins of up to eight worths, of each kind and of few kinds, some with their worths renamed."""
    joins = [settled(kind) for kind in KINDS]
    for size in range(1, 9):
        joins += [made(size, max), made(size, min), made(size, lambda x, y: x), made(size, lambda x, y: y),
                  made(size, lambda x, y: 0), made(size, lambda x, y: (x + y) % size), made(size, lambda x, y: x * y % size),
                  made(size, lambda x, y: min(x + y, size - 1))]
    small = [GREATER, ODD, made(2, lambda x, y: x), made(2, lambda x, y: y), made(2, lambda x, y: 0)]
    fours = [paired(one, two) for one, two in product(small, repeat=2)]
    joins += fours + [paired(one, two) for one, two in product(fours, small)]
    joins += [paired(ODD, settled("last")), paired(settled("first"), GREATER), paired(settled("even"), ODD)]
    draw = random.Random(7)
    for table in list(joins):
        names = list(range(len(table)))
        draw.shuffle(names)
        joins.append(renamed(table, names))
    return sorted(set(joins))


def rest_law(many):
    def law(table, x, y, z):
        heap = x
        for _ in range(many - 1):
            heap = table[heap][x]
        return table[x][y] == table[y][x] and table[heap][y] == y
    return law


# What [8] tells of the joins of each kind, for three worths.
LAWS = {
    "any": lambda table, x, y, z: True,
    "even": lambda table, x, y, z: table[x][y] == table[y][x],
    "first": lambda table, x, y, z: table[x][x] == x and table[x][table[y][x]] == table[x][y],
    "last": lambda table, x, y, z: table[x][x] == x and table[x][table[y][x]] == table[y][x],
    "sets": lambda table, x, y, z: table[x][x] == x and table[x][y] == table[y][x],
    "ends": lambda table, x, y, z: table[x][x] == x and table[x][table[y][z]] == table[x][z],
}
for number in range(2, 9):
    LAWS[number] = rest_law(number)


def kinds_held(table):
    """The kinds that a table has, as the document tells them."""
    if not associative(table):
        return ()
    triples = list(product(range(len(table)), repeat=3))
    return tuple([kind for kind in KINDS if all([LAWS[kind](table, *triple) for triple in triples])])


WRONG_TABLES = [
    *OTHERS, 0, 1, 2, -1, "0", (), ((),), ((), ()), (0,), (0, 0), ((), (0,)),
    # lists and other things in the place of tuples
    [(0,)], ([0],), [[0]], ((0, 0), [0, 0]), ([0, 0], (0, 0)), [(0, 0), (0, 0)], (range(1),), ("0",), (b"0",), ({0: 0},),
    # too many rows, too few, rows too short or too long
    ((0,) * 9,) * 9, ((0,) * 8,) * 9, ((0,) * 9,) * 8, ((0,) * 8,) * 7, ((0,) * 7,) * 8, ((0,), (0,)), ((0, 0),),
    ((0, 0), (0,)), ((0,), (0, 0)), ((0, 0), (0, 0, 0)), ((0, 0, 0), (0, 0)), ((0, 0), (0, 0), (0, 0)), ((0, 0), ()),
    ((0, 1, 2), (0, 1, 2), (0, 1)), ((0, 1, 2), (0, 1, 2), (0, 1, 2, 0)), ((0,) * 10,) * 10,
    # worths out of bounds, or no whole numbers
    ((1,),), ((-1,),), ((0, 2), (1, 1)), ((0, 1), (1, 2)), ((0, -1), (0, 0)), ((0, 0), (0, -2)), ((10 ** 399,),),
    ((True,),), ((False,),), ((0, True), (1, 1)), ((0, 1), (1, False)), ((None,),), (("0",),), (((0,),),), (([0],),),
    ((Odd(),),), ((0, 0), (0, Odd())), (Odd(),), ((0, 0), Odd()), ((0,) * 8,) * 7 + ((0,) * 7 + (8,),), ((1j,),),
    ((((((((((((((),),),),),),),),),),),),),),
]

# For two places and worths below two: what is told for the index, and the wrong worths (or marks).
WRONG_ROWS = [(None, value) for value in [*OTHERS, 0, 1, (), (0,), (0, 0, 0), [0, 1], [0], (1,) * 12, (0,) * 13, ((0, 1),)]]
WRONG_ROWS += [(0, (2, 0)), (1, (0, 2)), (0, (2, 2)), (0, (-1, 0)), (1, (0, -1)), (0, (True, 0)), (1, (0, True)),
               (0, (False, 2)), (1, (1, False)), (0, (None, 0)), (1, (0, None)), (1, (0, "1")), (0, ("0", "1")),
               (0, ((0,), 1)), (1, (1, [0])), (0, (Odd(), 0)), (1, (0, Odd())), (0, (10 ** 399, 0)), (1, (0, -10 ** 399)),
               (1, (1, ())), (0, (1j, 0))]

# For the net PAIR likewise the wishes.
WRONG_WISHES = [(None, value) for value in [*OTHERS, 0, 1, (), ((0, 0),), ((0, 0),) * 3, [(0, 0), (0, 1)], (0,),
                                            (((0, 0), (0, 1)),), ((0, 0),) * 24]]
WRONG_WISHES += [(0, ((0, 2), (0, 1))), (1, ((0, 0), (0, 2))), (0, ((1, 0), (1, 0))), (1, ((0, 0), (1, 0))),
                 (1, ((1, 1), (2, 2))), (0, ((-1, 0), (0, 1))), (1, ((0, 0), (0, -1))), (1, ((0, 0), (-1, -1))),
                 (0, (None, (0, 1))), (1, ((0, 0), None)), (0, (0, 1)), (0, ((0,), (0, 1))), (1, ((0, 0), (0, 1, 1))),
                 (1, ((0, 0), ())), (0, ([0, 0], (0, 1))), (1, ((0, 0), [0, 1])), (0, ((False, 0), (0, 1))),
                 (1, ((0, 0), (0, True))), (1, ((0, 0), (True, 1))), (0, ((0, False), (0, 1))), (1, ((0, 0), "01")),
                 (0, (("0", 0), (0, 1))), (1, ((0, 0), (0, "1"))), (0, ((None, 0), (0, 1))), (1, ((0, 0), (0, None))),
                 (0, ((Odd(), 0), (0, 1))), (1, ((0, 0), (0, Odd()))), (1, ((0, 0), (Odd(), Odd()))), (0, (Odd(), Odd())),
                 (1, ((0, 0), (0, 10 ** 399))), (0, (((0,), 0), (0, 1))), (1, ((0, 0), (0, (1,)))), (1, ((0, 0), {0: 1}))]

WRONG_PLACES = [*OTHERS, 0, 13, -1, 24, 10 ** 399, -10 ** 399, (), (1,), [1], "1", PAIR]

# For the net PAIR and others of two places and one box.
WRONG_FAULTS = [
    *OTHERS, 0, 1, 2, -1, "first", "turned", (), (0,), (1,), ("first",), (0, "first", 0, 0), (0, 0, 0, 0), ((0, "first"),),
    # the box: out of bounds, or no whole number
    (1, "first"), (-1, "first"), (2, "turned"), (10 ** 399, "second"), (True, "first"), (False, "first"), (None, "turned"),
    ("0", "first"), ("first", 0), ((0,), "first"), ([0], "turned"), (Odd(), "first"), (1j, "second"), (b"", "first"),
    (1, 0, 0), (-1, 0, 0), (2, 1, 1), (True, 0, 0), (False, 0, 0), (None, 0, 0), ("0", 0, 0), ((0,), 1, 0), (Odd(), 1, 1),
    # the way: another word, or none at all
    (0, "third"), (0, "First"), (0, "first "), (0, ""), (0, "f"), (0, "turn"), (0, "sets"), (0, b"first"), (0, None), (0, 0),
    (0, 1), (0, True), (0, ("first",)), (0, ["first"]), (0, {}), (0, Odd()), (0, str), (0, ("first", "second", "turned")),
    # the side
    (0, 2, 0), (0, -1, 0), (0, 10 ** 399, 1), (0, True, 0), (0, False, 1), (0, None, 0), (0, "0", 0), (0, "first", 0),
    (0, "turned", 1), (0, (0,), 0), (0, [1], 0), (0, Odd(), 0), (0, 1j, 0),
    # the wire: the box's own, later ones, none at all
    (0, 0, 2), (0, 1, 2), (0, 0, 3), (0, 1, 3), (0, 0, -1), (0, 1, -2), (0, 1, 10 ** 399), (0, 0, True), (0, 0, False),
    (0, 1, None), (0, 0, "0"), (0, 0, (0,)), (0, 1, [1]), (0, 0, Odd()), (0, 0, "first"), (0, 1, 1j),
    # lists in the place of tuples
    [0, "first"], [0, 0, 0], [0, 1, 1], ([0, "first"],), [(0, "first")],
]

WRONG_DEPTHS = [*OTHERS, -1, 61, 100, 10 ** 399, -10 ** 399, (), (0,), [1], "0", PAIR]
WRONG_NAMES = [*OTHERS, 0, 1, "rows", "Row", "ROW", "row ", " row", "half", "double", "pair", "halve", "o", "any",
               (), ("row",), ["row"], {"row"}, b"row", PAIR]

# Beside the net PAIR: no nets, and those with other places or another number of ends.
WRONG_BESIDE = [*WRONG_NETS, (3, ((0, 1),), (0, 2)), (1, (), (0, 0)), (2, ((0, 1),), (0,)), (2, ((0, 1),), (0, 2, 2))]

# By the name of a parameter: wrong values for it, and its error's attribute.
WRONG_WHOLE = {"net": WRONG_NETS, "other": WRONG_BESIDE, "table": WRONG_TABLES, "places": WRONG_PLACES, "fault": WRONG_FAULTS,
               "kind": WRONG_KINDS, "left": WRONG_DEPTHS, "height": WRONG_DEPTHS, "depth": WRONG_DEPTHS,
               "name": WRONG_NAMES}
WRONG_INDEXED = {"wishes": WRONG_WISHES, "worths": WRONG_ROWS, "marks": WRONG_ROWS, "one": WRONG_ROWS, "two": WRONG_ROWS}


def check_errors(case, call, right, errors, more=()):
    """Each wrong value of each parameter raises the error of this one, if those ahead are right.

    right has the right values by name, in the order of the signature, errors the classes of errors,
    more wrong values beside those that all calls have.
    """
    more, names = dict(more), list(right)
    wrong = {}
    for name in names:
        if name in WRONG_INDEXED:
            wrong[name] = WRONG_INDEXED[name]
        else:
            wrong[name] = [(value, value) for value in [*more.get(name, ()), *WRONG_WHOLE.get(name, ())]]
    for at, name in enumerate(names):
        for due, value in wrong[name]:
            here = {**right, name: value}
            below = {**here, **{later: wrong[later][0][1] for later in names[at + 1:]}}
            for held in (here, below):
                turned = {part: held[part] for part in reversed(names)}
                for error in (caught(call, *held.values()), caught(call, **turned)):
                    case.assertIs(type(error), errors[name], (call, held))
                    if name in WRONG_INDEXED:
                        case.assertEqual(list(vars(error)), ["index"])
                        case.assertEqual((type(error.index), error.index), (type(due), due), (call, held))
                    else:
                        case.assertEqual(list(vars(error)), ["given"])
                        case.assertIs(error.given, value, (call, held))
