"""Nets with wishes for the tests, and running nets that are right for all joins."""

import random

from runnets.nets import stretch_of
from runnets.rights import running_wishes
from tests.samples import SHOWN, drawn_nets, ladder_nets, small_nets


def stretches(places):
    return [(first, last) for first in range(places) for last in range(first, places)]


def stretch_word(wish):
    return tuple(range(wish[0], wish[1] + 1))


def wished_nets():
    """Pairs of a net and wishes for it: small nets and all stretches, ladders, others with drawn wishes."""
    pairs = []
    for net in small_nets():
        pairs += [(net, (wish,) * len(net[2])) for wish in stretches(net[0])]
    for net in (*SHOWN, *drawn_nets(), *ladder_nets()):
        draw = random.Random(len(net[1]) + len(net[2]))
        # Ends that are stretches are wished so at times, so that right ends are met.
        own = [stretch_of(net, end) if draw.random() < 0.7 else None for end in net[2]]
        pairs.append((net, tuple([wish or draw.choice(stretches(net[0])) for wish in own])))
    pairs += [(net, running_wishes(net[0])) for net in ladder_nets()]
    return pairs


def changed_ladders():
    """Ladder nets with a wire of a box led otherwise, a box turned or an end led otherwise."""
    nets = []
    for seed, net in enumerate(ladder_nets()[4:] * 4):
        draw = random.Random(seed)
        places, boxes, ends = net
        boxes, ends = [list(box) for box in boxes], list(ends)
        box = draw.randrange(len(boxes))
        way = draw.randrange(3)
        if way == 0:
            boxes[box].reverse()
        elif way == 1:
            boxes[box][draw.randrange(2)] = draw.randrange(places + box)
        else:
            ends[draw.randrange(places)] = draw.randrange(places + len(boxes))
        nets.append((places, tuple([tuple(box) for box in boxes]), tuple(ends)))
    return nets


def shuffled(net, draw):
    """The net with its boxes in any order in which each stands behind those that it uses."""
    places, boxes, ends = net
    leads, left, found = {place: place for place in range(places)}, list(range(len(boxes))), []
    while left:
        box = draw.choice([box for box in left if all([wire in leads for wire in boxes[box]])])
        left.remove(box)
        leads[places + box] = places + len(found)
        found.append(tuple([leads[wire] for wire in boxes[box]]))
    return (places, tuple(found), tuple([leads[end] for end in ends]))


class Grown:
    """Boxes of stretches cut anywhere; a stretch that is there is taken again, or made once more."""

    def __init__(self, places, draw, again):
        self.draw, self.again, self.places, self.boxes = draw, again, places, []
        self.known = {(place, place): [place] for place in range(places)}

    def box(self, ahead, behind):
        self.boxes.append((ahead, behind))
        return self.places + len(self.boxes) - 1

    def made(self, first, last):
        held = self.known.setdefault((first, last), [])
        if held and (first == last or self.draw.random() < self.again):
            return self.draw.choice(held)
        cut = self.draw.randrange(first, last)
        held.append(self.box(self.made(first, cut), self.made(cut + 1, last)))
        return held[-1]


def right_nets(many=250):
    """Running nets that are right for "any", drawn by fixed seeds, most with boxes twice or needless ones."""
    nets = []
    for seed in range(many):
        draw = random.Random(seed)
        grown = Grown(draw.randint(1, 12), draw, draw.choice([0.3, 0.8, 1, 1]))
        idle, ends = draw.choice([0, 0, 0.3]), []
        for place in range(grown.places):
            ends.append(grown.made(0, place))
            while draw.random() < idle:
                wires = grown.places + len(grown.boxes)
                grown.box(draw.randrange(wires), draw.randrange(wires))
        if len(grown.boxes) <= 60:
            nets.append(shuffled((grown.places, tuple(grown.boxes), tuple(ends)), draw))
    return nets


def halved(wires, boxes, places):
    """The totals of the wires by halves; their boxes are put behind the boxes that there are."""
    if len(wires) == 1:
        return wires
    half = (len(wires) + 1) // 2
    front, back = halved(wires[:half], boxes, places), halved(wires[half:], boxes, places)
    for wire in back:
        boxes.append((front[half - 1], wire))
        front = front + [places + len(boxes) - 1]
    return front


def halves_nets():
    """For each number of places the net by halves."""
    nets = []
    for places in range(1, 13):
        boxes = []
        ends = halved(list(range(places)), boxes, places)
        nets.append((places, tuple(boxes), tuple(ends)))
    return nets


# A right net of two places with needless boxes, words of up to 2 ** 59 places among them.
HEAVY = (2, ((0, 1), (0, 0)) + tuple([(k + 3, k + 3) for k in range(58)]), (0, 2))
