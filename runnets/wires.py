"""What the wires of a net come to. The nets here are right ones; nothing is checked."""

LONGEST_WORD = 400


def run_through(net, worths, joined):
    """What each wire comes to, in order, if places have these worths and boxes are joined so."""
    found = list(worths)
    for ahead, behind in net[1]:
        found.append(joined(found[ahead], found[behind]))
    return found


def wire_depths(net):
    """The depth of each wire, in order."""
    return run_through(net, [0] * net[0], lambda ahead, behind: max(ahead, behind) + 1)


def wire_lengths(net):
    """How many places the word of each wire has, in order."""
    return run_through(net, [1] * net[0], lambda ahead, behind: ahead + behind)


def join_stretches(ahead, behind):
    """The stretch of the one and behind it the other; None if that is none."""
    # No word of a stretch has a part that is none, so None stays None.
    if ahead is None or behind is None or ahead[1] + 1 != behind[0]:
        return None
    return (ahead[0], behind[1])


def wire_stretches(net):
    """For each wire, in order, the stretch whose word it has; None."""
    return run_through(net, [(place, place) for place in range(net[0])], join_stretches)


def join_words(ahead, behind):
    """The one word and behind it the other; None for one that is too long."""
    # Parts of a short word are short, so None stays None.
    if ahead is None or behind is None or len(ahead) + len(behind) > LONGEST_WORD:
        return None
    return ahead + behind


def short_words(net):
    """The word of each wire, in order; None for one of more than LONGEST_WORD places."""
    return run_through(net, [(place,) for place in range(net[0])], join_words)


def boxes_under(net, wires):
    """The ascending list of the boxes, by index, that some of these wires rest on."""
    places, boxes, _ = net
    under = set(wires)
    # Wires of boxes are earlier ones, so from the last box on each is met after all that use it.
    for box in reversed(range(len(boxes))):
        if places + box in under:
            for wire in boxes[box]:
                under.add(wire)
    return [box for box in range(len(boxes)) if places + box in under]
