"""Totals that begin anew where a worth is marked."""

from runnets.errors import InvalidMarks, InvalidTable
from runnets.nets import check_net
from runnets.plain import is_row, is_whole
from runnets.runs import end_worths
from runnets.tables import check_worths, is_table

# Each worth stands twice in the marked table, which has no more worths than a table may have.
MOST_MARKED = 4


def check_small(table):
    """Raise InvalidTable for no table of up to MOST_MARKED worths."""
    if not is_table(table) or len(table) > MOST_MARKED:
        raise InvalidTable(table)


def check_marks(net, marks):
    """Raise InvalidMarks for no tuple of as many marks as the net, which is a right one, has places."""
    if not is_row(marks, net[0], net[0]):
        raise InvalidMarks(None)
    for index, mark in enumerate(marks):
        if not is_whole(mark, 0, 1):
            raise InvalidMarks(index)


def join_marked(table, ahead, behind):
    """What both are joined to in the marked table."""
    size = len(table)
    if behind >= size:
        return behind
    if ahead >= size:
        return table[ahead - size][behind] + size
    return table[ahead][behind]


def with_marks(table):
    """The marked table of a right one; nothing is checked."""
    worths = range(2 * len(table))
    return tuple([tuple([join_marked(table, ahead, behind) for behind in worths]) for ahead in worths])


def marked_table(table):
    """The marked table: the worth x for x without a mark, SIZE + x for x with one."""
    check_small(table)
    return with_marks(table)


def begun_anew(net, table, worths, marks):
    """The worths at the ends, in order, if totals begin anew at the places that have a mark."""
    check_net(net)
    check_small(table)
    check_worths(table, worths, net[0], net[0])
    check_marks(net, marks)
    size = len(table)
    held = tuple([worth + size * mark for worth, mark in zip(worths, marks)])
    return tuple([worth % size for worth in end_worths(net, with_marks(table), held)])
