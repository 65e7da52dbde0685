"""Nets: their wires, depths and words, and which boxes rest on which."""

from runnets.errors import InvalidNet, InvalidNumber, InvalidWire, TooLong
from runnets.plain import is_row, is_whole
from runnets.wires import LONGEST_WORD, boxes_under, short_words, wire_depths, wire_lengths, wire_stretches

MOST_PLACES = 12
MOST_BOXES = 60
MOST_ENDS = 24


def are_wires(values, many):
    """Whether all of the values are wires, if there are so many of these."""
    return all(is_whole(value, 0, many - 1) for value in values)


def is_net(value):
    """Whether it is a net, whatever it is."""
    if not is_row(value, 3, 3):
        return False
    places, boxes, ends = value
    if not is_whole(places, 1, MOST_PLACES):
        return False
    if not is_row(boxes, 0, MOST_BOXES) or not is_row(ends, 1, MOST_ENDS):
        return False
    for index, box in enumerate(boxes):
        if not is_row(box, 2, 2) or not are_wires(box, places + index):
            return False
    return are_wires(ends, places + len(boxes))


def check_net(net):
    """Raise InvalidNet for no net."""
    if not is_net(net):
        raise InvalidNet(net)


def check_wire(net, wire):
    """Raise InvalidWire for no wire of the net, which is a right one."""
    if not are_wires((wire,), net[0] + len(net[1])):
        raise InvalidWire(wire)


def check_places(places):
    """Raise InvalidNumber for no number of places that nets have."""
    if not is_whole(places, 1, MOST_PLACES):
        raise InvalidNumber(places)


def joins_of(net):
    """How many boxes the net has."""
    check_net(net)
    return len(net[1])


def depth_of(net):
    """The greatest depth of the net's wires, needless ones too."""
    check_net(net)
    return max(wire_depths(net))


def depths(net):
    """The depth of each wire, in order."""
    check_net(net)
    return tuple(wire_depths(net))


def lengths(net):
    """How many places the word of each wire has, in order."""
    check_net(net)
    return tuple(wire_lengths(net))


def fans(net):
    """For each wire, in order, how often it is a wire of boxes and how often an end, together."""
    check_net(net)
    places, boxes, ends = net
    counts = [0] * (places + len(boxes))
    for row in (*boxes, ends):
        for wire in row:
            counts[wire] += 1
    return tuple(counts)


def word_of(net, wire):
    """The word of the wire; TooLong for one of more than LONGEST_WORD places."""
    check_net(net)
    check_wire(net, wire)
    long = wire_lengths(net)[wire]
    if long > LONGEST_WORD:
        raise TooLong(long)
    return short_words(net)[wire]


def stretch_of(net, wire):
    """The stretch whose word the wire has; None."""
    check_net(net)
    check_wire(net, wire)
    return wire_stretches(net)[wire]


def rests_on(net, wire):
    """The boxes, by index, that the wire rests on, ascending."""
    check_net(net)
    check_wire(net, wire)
    return tuple(boxes_under(net, (wire,)))


def needless(net):
    """The boxes, by index, that no end rests on, ascending."""
    check_net(net)
    _, boxes, ends = net
    needed = boxes_under(net, ends)
    return tuple([box for box in range(len(boxes)) if box not in needed])


def led_by(row, leads):
    """The row of wires, in the place of each the one that leads has for it."""
    return tuple([leads[wire] for wire in row])


def trimmed(net):
    """The net without its needless boxes, the others in order."""
    check_net(net)
    places, boxes, ends = net
    kept = boxes_under(net, ends)
    leads = {place: place for place in range(places)}
    for index, box in enumerate(kept):
        leads[places + box] = places + index
    return (places, tuple([led_by(boxes[box], leads) for box in kept]), led_by(ends, leads))


def mirrored(net):
    """The net from behind: place n - 1 - k for place k, both wires of each box exchanged."""
    check_net(net)
    places, boxes, ends = net
    leads = list(reversed(range(places))) + list(range(places, places + len(boxes)))
    turned = [led_by((behind, ahead), leads) for ahead, behind in boxes]
    return (places, tuple(turned), led_by(ends, leads))
