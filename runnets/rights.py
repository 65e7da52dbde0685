"""Which nets are right for wishes and a kind, and what small table and worths tell it."""

from runnets.errors import InvalidWishes
from runnets.forms import stretch_form, wire_forms
from runnets.kinds import check_kind
from runnets.nets import check_net, check_places
from runnets.plain import is_row, is_whole
from runnets.runs import due_worths, end_worths

# In row x, at place y, what x and y are joined to; the numbers' tables are made where they are asked for.
SETTLING = {
    "any": ((0, 1, 2, 3, 4), (1, 4, 3, 4, 4), (2, 4, 4, 4, 4), (3, 4, 4, 4, 4), (4, 4, 4, 4, 4)),
    "even": ((0, 1, 2), (1, 2, 2), (2, 2, 2)),
    "first": ((0, 1, 2), (1, 1, 1), (2, 2, 2)),
    "last": ((0, 1, 2), (1, 1, 2), (2, 1, 2)),
    "sets": ((0, 1), (1, 1)),
    "ends": ((0, 1, 0, 1), (0, 1, 0, 1), (2, 3, 2, 3), (2, 3, 2, 3)),
}


def is_stretch(value, places):
    """Whether it is a stretch of so many places, whatever it is."""
    if not is_row(value, 2, 2):
        return False
    first, last = value
    return is_whole(first, 0, places - 1) and is_whole(last, first, places - 1)


def check_wishes(net, wishes):
    """Raise InvalidWishes for no tuple of as many stretches as the net, which is a right one, has ends."""
    many = len(net[2])
    if not is_row(wishes, many, many):
        raise InvalidWishes(None)
    for index, wish in enumerate(wishes):
        if not is_stretch(wish, net[0]):
            raise InvalidWishes(index)


def check_wished(net, wishes, kind):
    """Raise what is told for a net, wishes for it and a kind."""
    check_net(net)
    check_wishes(net, wishes)
    check_kind(kind)


def running_wishes(places):
    """The stretches from place 0 up to each place, in order."""
    check_places(places)
    return tuple([(0, place) for place in range(places)])


def is_right(net, wishes, kind):
    """Whether for all joins of the kind and all worths each end has the worth that its wish is due."""
    return wrong_ends(net, wishes, kind) == ()


def wrong_ends(net, wishes, kind):
    """The indexes of the ends that are not right, ascending."""
    check_wished(net, wishes, kind)
    # A word that is too long has no form here for "any": it is longer than that of any stretch.
    forms = wire_forms(net, kind)
    due = [stretch_form(net[0], wish, kind) for wish in wishes]
    return tuple([index for index, end in enumerate(net[2]) if forms[end] != due[index]])


def settling_table(kind):
    """The table that settles which ends are right for the kind."""
    check_kind(kind)
    if kind in SETTLING:
        return SETTLING[kind]
    return tuple([tuple([(x + y) % kind for y in range(kind)]) for x in range(kind)])


def single_rows(places, worth):
    """The rows with the worth at one place and 0 at all others, for each place, ascending."""
    return [(0,) * place + (worth,) + (0,) * (places - 1 - place) for place in range(places)]


def pair_rows(places):
    """The rows with 1 at one place, 2 at one behind it and 0 at all others, pairs ascending."""
    ones, twos = single_rows(places, 1), single_rows(places, 2)
    pairs = [(one, two) for one in range(places) for two in range(one + 1, places)]
    return [ones[one][:two] + twos[two][two:] for one, two in pairs]


def test_rows(kind, places):
    """The rows of worths of the settling table that tell which ends are right for the kind, in order."""
    check_kind(kind)
    check_places(places)
    if kind == "any" and places > 1:
        return tuple(pair_rows(places))
    if kind == "ends":
        return tuple(single_rows(places, 3))
    if kind in ("first", "last"):
        return tuple(single_rows(places, 1) + pair_rows(places))
    return tuple(single_rows(places, 1))


def parting(net, wishes, kind):
    """An end, by index, and a row of worths of the settling table for which it tells another worth than due; None."""
    check_wished(net, wishes, kind)
    table = settling_table(kind)
    for row in test_rows(kind, net[0]):
        told, due = end_worths(net, table, row), due_worths(table, wishes, row)
        for index, worth in enumerate(told):
            if worth != due[index]:
                return (index, row)
    return None
