"""Claims with papers for the checker; of two claims that exclude one another, the one that is so."""

from runnets.bounds import spare
from runnets.carries import miscarry
from runnets.faults import harmed_ends
from runnets.kinds import unlike_end
from runnets.least import least_joins, least_net
from runnets.rights import parting
from runnets.tables import breaking_triple, is_of_kind


def told_of(good, bad, parts, paper):
    """The bad claim of these parts with its paper; the good one if there is none."""
    if paper is None:
        return ((good, *parts), ())
    return ((bad, *parts), paper)


def certify_right(net, wishes, kind):
    """Whether the net is right for the wishes and the kind."""
    return told_of("right", "wrong", (net, wishes, kind), parting(net, wishes, kind))


def certify_alike(net, other, kind):
    """Whether both nets tell the same at each end for the kind."""
    return told_of("alike", "unlike", (net, other, kind), unlike_end(net, other, kind))


def certify_join(table):
    """Whether the table is a join."""
    return told_of("join", "no join", (table,), breaking_triple(table))


def certify_kind(table, kind):
    """Whether the table has the kind."""
    word = "has kind" if is_of_kind(table, kind) else "lacks kind"
    return ((word, table, kind), ())


def certify_adding(net):
    """Whether the net adds right."""
    return told_of("adds", "miscarries", (net,), miscarry(net))


def certify_fault(net, wishes, kind, fault):
    """Whether the fault is harmless."""
    harmed = harmed_ends(net, wishes, kind, fault)
    return told_of("harmless", "harmful", (net, wishes, kind, fault), harmed[0] if harmed else None)


def certify_spare(net):
    """The spare numbers of the net."""
    return (("spare", net) + spare(net), ())


def certify_least(places, depth):
    """The least number of joins with a net that has it, or that there is no such net."""
    number = least_joins(places, depth)
    if number is None:
        return (("no net", places, depth), ())
    return (("least joins", places, depth, number), least_net(places, depth))
