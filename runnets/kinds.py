"""The kinds of joins, and which nets tell the same for all joins of a kind."""

from runnets.errors import InvalidKind, InvalidNet, TooLong
from runnets.forms import wire_forms
from runnets.nets import check_net, check_wire, is_net
from runnets.wires import LONGEST_WORD, wire_lengths

KINDS = ("any", "even", 2, 3, 4, 5, 6, 7, 8, "first", "last", "sets", "ends")


def is_kind(value):
    """Whether it is a kind, whatever it is."""
    # Only numbers and texts are compared with the kinds: other things may refuse to be compared.
    return type(value) in (int, str) and value in KINDS


def check_kind(kind):
    """Raise InvalidKind for no kind."""
    if not is_kind(kind):
        raise InvalidKind(kind)


def check_other(net, other):
    """Raise InvalidNet for no net with as many places and ends as the net, which is a right one."""
    if not is_net(other) or other[0] != net[0] or len(other[2]) != len(net[2]):
        raise InvalidNet(other)


def check_short(long, kind):
    """Raise TooLong if a word of so many places is too long to have a form for the kind."""
    if kind == "any" and long > LONGEST_WORD:
        raise TooLong(long)


def form_of(net, wire, kind):
    """The form of the wire's word for the kind; last TooLong for "any"."""
    check_net(net)
    check_wire(net, wire)
    check_kind(kind)
    check_short(wire_lengths(net)[wire], kind)
    return wire_forms(net, kind)[wire]


def unlike_ends(net, other, kind):
    """The indexes of the ends at which both have unlike forms, ascending. Last TooLong for "any"."""
    check_net(net)
    check_other(net, other)
    check_kind(kind)
    pairs = list(zip(net[2], other[2]))
    here, there = wire_lengths(net), wire_lengths(other)
    # All ends are checked ahead of any answer: a long word behind an unlike end is refused, too.
    for one, two in pairs:
        check_short(here[one], kind)
        check_short(there[two], kind)
    these, those = wire_forms(net, kind), wire_forms(other, kind)
    return tuple([index for index, (one, two) in enumerate(pairs) if these[one] != those[two]])


def unlike_end(net, other, kind):
    """The least index of an end at which both have unlike forms; None. Last TooLong for "any"."""
    unlike = unlike_ends(net, other, kind)
    return unlike[0] if unlike else None


def are_alike(net, other, kind):
    """Whether for all joins of the kind and all worths both tell the same at each end."""
    return unlike_end(net, other, kind) is None
