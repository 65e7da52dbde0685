"""What the joins of tables keep to. Tables and kinds here are right ones; nothing is checked."""

from runnets.runs import plain_totals


def triples_of(table):
    """All triples of its worths, ascending."""
    worths = range(len(table))
    return [(x, y, z) for x in worths for y in worths for z in worths]


def is_unlike(table, triple):
    """Whether both ways to bracket the triple of worths tell unlike ones."""
    x, y, z = triple
    return table[table[x][y]][z] != table[x][table[y][z]]


def unlike_triple(table):
    """The least triple of worths for which both ways to bracket it tell unlike ones; None."""
    for triple in triples_of(table):
        if is_unlike(table, triple):
            return triple
    return None


def is_even(table):
    """Whether x y = y x."""
    worths = range(len(table))
    return all([table[x][y] == table[y][x] for x in worths for y in worths])


def is_idle_after(table, many):
    """Whether so many times x, and then y, is y."""
    worths = range(len(table))
    heaps = [plain_totals(table, (x,) * many)[-1] for x in worths]
    return all([table[heap][y] == y for heap in heaps for y in worths])


def keeps_each(table):
    """Whether x x = x."""
    return all([table[x][x] == x for x in range(len(table))])


def keeps_first(table):
    """Whether x y x = x y."""
    worths = range(len(table))
    return all([table[table[x][y]][x] == table[x][y] for x in worths for y in worths])


def keeps_last(table):
    """Whether x y x = y x."""
    worths = range(len(table))
    return all([table[table[x][y]][x] == table[y][x] for x in worths for y in worths])


def keeps_ends(table):
    """Whether x y z = x z."""
    return all([table[table[x][y]][z] == table[x][z] for x, y, z in triples_of(table)])


def has_kind(table, kind):
    """Whether the table, which is a join, has the kind."""
    if kind == "any":
        return True
    if kind == "even":
        return is_even(table)
    if type(kind) is int:
        return is_even(table) and is_idle_after(table, kind)
    if not keeps_each(table):
        return False
    if kind == "first":
        return keeps_first(table)
    if kind == "last":
        return keeps_last(table)
    if kind == "sets":
        return is_even(table)
    return keeps_ends(table)
