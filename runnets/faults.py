"""Faults of nets: boxes that are left out, turned or led otherwise, and what they harm."""

from runnets.errors import InvalidFault
from runnets.nets import check_net, led_by
from runnets.plain import is_row, is_whole
from runnets.rights import check_wished, wrong_ends

WAYS = ("first", "second", "turned")


def is_fault(net, value):
    """Whether it is a fault of the net, which is a right one, whatever it is."""
    places, boxes, _ = net
    if not is_row(value, 2, 3) or not is_whole(value[0], 0, len(boxes) - 1):
        return False
    if len(value) == 2:
        way = value[1]
        # Only texts are compared with the ways: other things may refuse to be compared.
        return type(way) is str and way in WAYS
    box, side, wire = value
    return is_whole(side, 0, 1) and is_whole(wire, 0, places + box - 1)


def check_fault(net, fault):
    """Raise InvalidFault for no fault of the net, which is a right one."""
    if not is_fault(net, fault):
        raise InvalidFault(fault)


def handed_on(net, box, wire):
    """The net with the wire wherever the box's own one is used."""
    places, boxes, ends = net
    leads = list(range(places + len(boxes)))
    leads[places + box] = wire
    return (places, tuple([led_by(row, leads) for row in boxes]), led_by(ends, leads))


def with_wires(net, box, wires):
    """The net with these two wires for the box."""
    places, boxes, ends = net
    return (places, boxes[:box] + (wires,) + boxes[box + 1:], ends)


def with_fault(net, fault):
    """The faulty net; nothing is checked."""
    box, way = fault[:2]
    first, second = net[1][box]
    if way == "first":
        return handed_on(net, box, first)
    if way == "second":
        return handed_on(net, box, second)
    if way == "turned":
        return with_wires(net, box, (second, first))
    wire = fault[2]
    return with_wires(net, box, (wire, second) if way == 0 else (first, wire))


def faulty(net, fault):
    """The faulty net, its boxes and ends in order."""
    check_net(net)
    check_fault(net, fault)
    return with_fault(net, fault)


def harmed_ends(net, wishes, kind, fault):
    """The indexes of the faulty net's ends that are not right, ascending."""
    check_wished(net, wishes, kind)
    check_fault(net, fault)
    return wrong_ends(with_fault(net, fault), wishes, kind)


def harmless(net, wishes, kind):
    """All harmless faults by a box and a way, boxes ascending, ways in the order of WAYS."""
    check_wished(net, wishes, kind)
    faults = [(box, way) for box in range(len(net[1])) for way in WAYS]
    return tuple([fault for fault in faults if wrong_ends(with_fault(net, fault), wishes, kind) == ()])
