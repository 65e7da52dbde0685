"""Runs of nets on tables, and totals. Nets, tables, worths and wishes here are right ones; nothing is checked."""

from runnets.wires import run_through


def end_worths(net, table, worths):
    """The worths at the ends, in order, of the net run on the table."""
    found = run_through(net, worths, lambda ahead, behind: table[ahead][behind])
    return tuple([found[end] for end in net[2]])


def plain_totals(table, worths):
    """The first worth, and then, worth by worth, the total so far joined with the next one."""
    found = [worths[0]]
    for worth in worths[1:]:
        found.append(table[found[-1]][worth])
    return tuple(found)


def due_worths(table, wishes, worths):
    """What each wish is due, in order."""
    return tuple([plain_totals(table, worths[first:last + 1])[-1] for first, last in wishes])
