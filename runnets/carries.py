"""Carries of additions, told by nets from the digits of two summands."""

from runnets.errors import InvalidDigits, NotRunning
from runnets.nets import check_net
from runnets.plain import is_row, is_whole
from runnets.rights import is_right, running_wishes, settling_table, test_rows
from runnets.runs import end_worths

# What a place does to a carry, as worths of the table that settles "last".
KEEP = 0
MAKE = 1
STOP = 2


def check_digits(net, digits):
    """Raise InvalidDigits for no tuple of as many digits as the net, which is a right one, has places."""
    if not is_row(digits, net[0], net[0]):
        raise InvalidDigits(None)
    for index, digit in enumerate(digits):
        if not is_whole(digit, 0, 1):
            raise InvalidDigits(index)


def check_running(net):
    """Raise NotRunning if the net, which is a right one, has another number of ends than of places."""
    if len(net[2]) != net[0]:
        raise NotRunning()


def deed_of(here, there):
    """What a place with these two digits does to a carry."""
    if here != there:
        return KEEP
    return MAKE if here == 1 else STOP


def told_carries(net, one, two):
    """1 for each end that comes to make, else 0; nothing is checked."""
    deeds = [deed_of(here, there) for here, there in zip(one, two)]
    return tuple([int(deed == MAKE) for deed in end_worths(net, settling_table("last"), deeds)])


def added_carries(one, two):
    """The carry out of each place, in order, when the summands are added; nothing is checked."""
    found, carry = [], 0
    for here, there in zip(one, two):
        carry = (here + there + carry) // 2
        found.append(carry)
    return tuple(found)


def summands_of(deeds):
    """Two summands whose places do this to a carry."""
    one = tuple([int(deed == MAKE) for deed in deeds])
    two = tuple([int(deed != STOP) for deed in deeds])
    return (one, two)


def carries(net, one, two):
    """The carries that the ends tell of the sum of both, in order."""
    check_net(net)
    check_digits(net, one)
    check_digits(net, two)
    check_running(net)
    return told_carries(net, one, two)


def adds_right(net):
    """Whether for all summands each end tells the carry out of its place."""
    check_net(net)
    check_running(net)
    return is_right(net, running_wishes(net[0]), "last")


def miscarry(net):
    """Two summands for which some end tells a wrong carry; None."""
    check_net(net)
    check_running(net)
    # A lone make shows a place that is lacking or too many, make and stop behind it two in the wrong order.
    for deeds in test_rows("last", net[0]):
        one, two = summands_of(deeds)
        if told_carries(net, one, two) != added_carries(one, two):
            return (one, two)
    return None
