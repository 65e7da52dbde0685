"""The checker of claims and their papers.

Each rule tells whether its claim is so and the paper one for it. Parts of claims and papers that are wrong
raise errors in the rules; accepts takes these for a no.
"""

from runnets.bounds import check_right, spare
from runnets.carries import added_carries, adds_right, carries
from runnets.errors import NetError
from runnets.faults import harmed_ends
from runnets.kinds import are_alike, unlike_ends
from runnets.least import least_joins
from runnets.plain import is_row, is_whole
from runnets.rights import check_wished, is_right, settling_table
from runnets.rules import is_unlike
from runnets.runs import due_worths, end_worths
from runnets.tables import check_table, check_worths, is_join, is_of_kind
from runnets.wires import wire_depths


def is_nothing(paper):
    """Whether the paper is ()."""
    return is_row(paper, 0, 0)


def is_one_of(paper, indexes):
    """Whether the paper is one of these indexes."""
    return type(paper) is int and paper in indexes


def shows_right(paper, net, wishes, kind):
    """The net is right for the wishes and the kind."""
    return is_right(net, wishes, kind) and is_nothing(paper)


def shows_wrong(paper, net, wishes, kind):
    """The net is not right: the paper is an end and a row of worths for which it tells another worth than due."""
    check_wished(net, wishes, kind)
    if not is_row(paper, 2, 2):
        return False
    end, row = paper
    table = settling_table(kind)
    check_worths(table, row, net[0], net[0])
    if not is_whole(end, 0, len(net[2]) - 1):
        return False
    return end_worths(net, table, row)[end] != due_worths(table, wishes, row)[end]


def shows_alike(paper, net, other, kind):
    """Both nets tell the same at each end."""
    return are_alike(net, other, kind) and is_nothing(paper)


def shows_unlike(paper, net, other, kind):
    """The nets have unlike forms at the end that is the paper."""
    return is_one_of(paper, unlike_ends(net, other, kind))


def shows_join(paper, table):
    """The table is a join."""
    return is_join(table) and is_nothing(paper)


def shows_no_join(paper, table):
    """The table is no join: the paper is a triple of worths that breaks it."""
    check_table(table)
    check_worths(table, paper, 3, 3)
    return is_unlike(table, paper)


def shows_kind(paper, table, kind):
    """The table has the kind."""
    return is_of_kind(table, kind) and is_nothing(paper)


def shows_lack(paper, table, kind):
    """The table has not the kind."""
    return not is_of_kind(table, kind) and is_nothing(paper)


def shows_adding(paper, net):
    """The net adds right."""
    return adds_right(net) and is_nothing(paper)


def shows_miscarry(paper, net):
    """The net does not add right: the paper is two summands with a wrong carry."""
    if not is_row(paper, 2, 2):
        return False
    one, two = paper
    return carries(net, one, two) != added_carries(one, two)


def shows_harmless(paper, net, wishes, kind, fault):
    """The fault is harmless."""
    return harmed_ends(net, wishes, kind, fault) == () and is_nothing(paper)


def shows_harm(paper, net, wishes, kind, fault):
    """The fault harms the end that is the paper."""
    return is_one_of(paper, harmed_ends(net, wishes, kind, fault))


def shows_spare(paper, net, outside, inner, beyond):
    """These are the spare numbers of the net."""
    claimed, told = (outside, inner, beyond), spare(net)
    return all([type(number) is int for number in claimed]) and claimed == told and is_nothing(paper)


def shows_least(paper, places, depth, number):
    """This is the least number of joins: the paper is a net that has so many."""
    if type(number) is not int or number != least_joins(places, depth):
        return False
    check_right(paper)
    return paper[0] == places and len(paper[1]) == number and max(wire_depths(paper)) <= depth


def shows_no_net(paper, places, depth):
    """There is no such net."""
    return least_joins(places, depth) is None and is_nothing(paper)


RULES = {
    "right": shows_right, "wrong": shows_wrong, "alike": shows_alike, "unlike": shows_unlike, "join": shows_join,
    "no join": shows_no_join, "has kind": shows_kind, "lacks kind": shows_lack, "adds": shows_adding,
    "miscarries": shows_miscarry, "harmless": shows_harmless, "harmful": shows_harm, "spare": shows_spare,
    "least joins": shows_least, "no net": shows_no_net,
}
# How many elements each claim has behind its word.
PARTS = {
    "right": 3, "wrong": 3, "alike": 3, "unlike": 3, "join": 1, "no join": 1, "has kind": 2, "lacks kind": 2,
    "adds": 1, "miscarries": 1, "harmless": 4, "harmful": 4, "spare": 4, "least joins": 3, "no net": 2,
}


def is_worded(claim):
    """Whether it is a tuple of a claim's word and as many parts as the word asks for."""
    if not is_row(claim, 2, 5):
        return False
    word = claim[0]
    return type(word) is str and word in RULES and len(claim) == 1 + PARTS[word]


def accepts(claim, paper):
    """Whether the claim is one for the checker and the paper one for it, whatever both are."""
    if not is_worded(claim):
        return False
    rule = RULES[claim[0]]
    parts = claim[1:]
    try:
        return rule(paper, *parts)
    except NetError:
        return False
