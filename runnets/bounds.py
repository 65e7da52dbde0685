"""What joins and depth cost together: the tree, the spine and the blocks of nets that are right for all joins."""

from runnets.carries import check_running
from runnets.errors import NotRight
from runnets.nets import check_net, trimmed
from runnets.rights import is_right, running_wishes
from runnets.wires import boxes_under, wire_depths, wire_lengths, wire_stretches


def check_right(net):
    """Raise what is told for a net that is not running, or not right for "any"."""
    check_net(net)
    check_running(net)
    if not is_right(net, running_wishes(net[0]), "any"):
        raise NotRight()


def tree_boxes(net):
    """The boxes, by index, that the last end rests on, ascending; nothing is checked."""
    return boxes_under(net, (net[2][-1],))


def spine_boxes(net):
    """The boxes of the tree, by index, whose stretch begins at place 0, ascending; nothing is checked."""
    stretches = wire_stretches(net)
    return [box for box in tree_boxes(net) if stretches[net[0] + box][0] == 0]


def tree_of(net):
    """The boxes of the tree, by index, ascending."""
    check_right(net)
    return tuple(tree_boxes(net))


def spine_of(net):
    """The boxes of the spine, by index, ascending."""
    check_right(net)
    return tuple(spine_boxes(net))


def spare(net):
    """Counts of the boxes outside of tree and ends, of spine boxes that are no ends, of DEPTH beyond the spine."""
    check_right(net)
    places, boxes, ends = net
    tree, spine = tree_boxes(net), spine_boxes(net)
    idle = [box for box in range(len(boxes)) if box not in tree and places + box not in ends]
    inner = [box for box in spine if places + box not in ends]
    return (len(idle), len(inner), max(wire_depths(net)) - len(spine))


def blocks_of(net):
    """How many places each spine box adds, in order."""
    check_right(net)
    lengths = wire_lengths(net)
    return tuple([lengths[net[1][box][1]] for box in spine_boxes(net)])


def least_deep_boxes(net):
    """For each stretch that a needed box has, by the stretch the box of the least depth, by index."""
    places, _, ends = net
    stretches, depths = wire_stretches(net), wire_depths(net)
    found = {}
    for box in boxes_under(net, ends):
        stretch = stretches[places + box]
        if stretch not in found or depths[places + box] < depths[places + found[stretch]]:
            found[stretch] = box
    return found


def merged(net):
    """A running net without two boxes of one stretch and without needless ones, of no more joins and depth."""
    check_right(net)
    places, boxes, ends = net
    stretches, chosen = wire_stretches(net), least_deep_boxes(net)
    # Both parts of a stretch are shorter than it is, so they stand ahead of it in this order.
    order = sorted(chosen, key=lambda stretch: stretch[1] - stretch[0])
    leads = {(place, place): place for place in range(places)}
    for index, stretch in enumerate(order):
        leads[stretch] = places + index
    held = [tuple([leads[stretches[wire]] for wire in boxes[chosen[stretch]]]) for stretch in order]
    return trimmed((places, tuple(held), tuple([leads[stretches[end]] for end in ends])))
