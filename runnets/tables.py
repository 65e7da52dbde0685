"""Tables: which are joins and of which kinds, runs of nets on them, and plain totals."""

from runnets.errors import InvalidTable, InvalidWorths
from runnets.kinds import KINDS, check_kind
from runnets.nets import MOST_PLACES, check_net
from runnets.plain import is_row, is_whole
from runnets.rules import has_kind, unlike_triple
from runnets.runs import end_worths, plain_totals

MOST_WORTHS = 8


def is_table(value):
    """Whether it is a table, whatever it is."""
    if not is_row(value, 1, MOST_WORTHS):
        return False
    size = len(value)
    if not all([is_row(row, size, size) for row in value]):
        return False
    return all([is_whole(worth, 0, size - 1) for row in value for worth in row])


def check_table(table):
    """Raise InvalidTable for no table."""
    if not is_table(table):
        raise InvalidTable(table)


def check_worths(table, worths, least, most):
    """Raise InvalidWorths for no tuple of from least up to most worths of the table, which is a right one."""
    if not is_row(worths, least, most):
        raise InvalidWorths(None)
    for index, worth in enumerate(worths):
        if not is_whole(worth, 0, len(table) - 1):
            raise InvalidWorths(index)


def is_join(table):
    """Whether the table is associative."""
    return breaking_triple(table) is None


def breaking_triple(table):
    """A triple (x, y, z) of worths with (x y) z and x (y z) unlike; None."""
    check_table(table)
    return unlike_triple(table)


def is_of_kind(table, kind):
    """Whether the table has the kind; no table that is no join has any."""
    check_table(table)
    check_kind(kind)
    return unlike_triple(table) is None and has_kind(table, kind)


def kinds_of(table):
    """The kinds that the table has, in the order of KINDS; none for no join."""
    if not is_join(table):
        return ()
    return tuple([kind for kind in KINDS if has_kind(table, kind)])


def run(net, table, worths):
    """The worths at the ends, in order, of the net run on the table and the worths of the places."""
    check_net(net)
    check_table(table)
    check_worths(table, worths, net[0], net[0])
    return end_worths(net, table, worths)


def totals(table, worths):
    """The plain totals of one to MOST_PLACES worths."""
    check_table(table)
    check_worths(table, worths, 1, MOST_PLACES)
    return plain_totals(table, worths)
