"""The least number of joins for each depth, and nets that have it."""

from math import comb

from runnets.drafts import Draft
from runnets.errors import InvalidNumber
from runnets.ladders import ladder, ladder_counts
from runnets.nets import check_places
from runnets.plain import is_whole

MOST_DEPTH = 60


def check_small_number(value):
    """Raise InvalidNumber for no whole number from 0 to MOST_DEPTH."""
    if not is_whole(value, 0, MOST_DEPTH):
        raise InvalidNumber(value)


def leaves_within(left, height):
    """The sum of C(height, k), k from 0 to left."""
    check_small_number(left)
    check_small_number(height)
    return sum([comb(height, k) for k in range(left + 1)])


def widest(depth):
    """The greatest number of places for which 2 n - 2 - depth joins are enough at this depth."""
    check_small_number(depth)
    one, two = 0, 1
    for _ in range(depth + 3):
        one, two = two, one + two
    return one - 1


def least_joins(places, depth):
    """The least number of joins of a running net, right for "any", of up to this depth; None."""
    check_places(places)
    check_small_number(depth)
    if 1 << depth < places:
        return None
    # More depth than that of the row spares no more joins.
    deep = min(depth, places - 1)
    if places <= widest(deep):
        return 2 * places - 2 - deep
    # Of up to 12 places this leaves eight in depth 3 alone.
    return ladder_counts("halves", places)[0]


def least_net(places, depth):
    """A running net, right for "any", of at most this depth, with the least number of joins; None."""
    if least_joins(places, depth) is None:
        return None
    deep = min(depth, places - 1)
    if places > widest(deep):
        return ladder("halves", places)
    return net_of_blocks(places, deep)


def net_of_blocks(places, deep):
    """A running net, right for "any", of just this depth, with nothing spare; places are up to the widest for it."""
    draft, ends = Draft(places), [0]
    for index, many in enumerate(block_sizes(places, deep)):
        first, base = len(ends), ends[-1]
        block = add_block(draft, ends, first, many, index, deep - index)
        ends.append(draft.joined(base, block))
    return draft.net_with(ends)


def block_sizes(places, deep):
    """How many places each of the deep blocks has, as many as can be from the first one on, one at least."""
    sizes, extra = [], places - 1 - deep
    for index in range(deep):
        more = min(extra, leaves_within(deep - index, index) - 1)
        sizes.append(1 + more)
        extra = extra - more
    return sizes


def add_block(draft, ends, first, many, height, left):
    """The wire of the stretch of many places from first on, of this height at most.

    ends hold those of all places ahead of first, and get those of all of these but the last one;
    left is how much deeper than the end ahead of first they may be.
    """
    if many == 1:
        return first
    front, base = min(many - 1, leaves_within(left, height - 1)), ends[-1]
    ahead = add_block(draft, ends, first, front, height - 1, left)
    # This end is one deeper than the end ahead of first, so behind it one depth less is left.
    ends.append(draft.joined(base, ahead))
    behind = add_block(draft, ends, first + front, many - front, height - 1, left - 1)
    return draft.joined(ahead, behind)
