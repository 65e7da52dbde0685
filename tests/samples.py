"""Nets and values for the tests, and plain ways to tell what a net's wires are."""

import random
from itertools import product

PAIR = (2, ((0, 1),), (0, 2))
THREE = (3, ((0, 1), (3, 2)), (0, 3, 4))
FOUR = (4, ((0, 1), (2, 3), (4, 2), (4, 5)), (0, 4, 6, 7))
BACK = (2, ((1, 0),), (0, 2))
TWICE = (2, ((0, 1), (2, 1)), (0, 3))
IDLE = (2, ((0, 1), (1, 0)), (0, 2))

# Without boxes; with boxes twice alike; with an end that stands twice; with needless boxes under needless ones.
BARE = (1, (), (0,))
WIDE = (12, (), (11, 0, 5, 5))
ALIKE = (3, ((0, 1), (0, 1), (3, 4), (1, 1), (5, 2)), (4, 3, 7, 7))
UNUSED = (3, ((2, 1), (3, 0), (0, 1), (4, 4), (5, 2)), (0, 5, 7))

# 60 boxes, each the box before it joined with itself: the last word has 2 ** 60 places.
DOUBLING = (1, tuple([(k, k) for k in range(60)]), (60,))
# 60 boxes, each the box before it joined with one more place.
CHAIN = (2, ((0, 1),) + tuple([(k + 2, 1) for k in range(59)]), (61,))
# 12 places; the words 1 0, 1 0 1 0, .. of box 0, 1, .. up to 2 ** 60 places, and no box for any stretch.
CROSSED = (12, ((1, 0),) + tuple([(k + 12, k + 12) for k in range(59)]), (0, 71))

SHOWN = (PAIR, THREE, FOUR, BACK, TWICE, IDLE, BARE, WIDE, ALIKE, UNUSED)


def doubled(to, places=1):
    """A net whose last end's word has just so many places: one doubled, and the needed ones joined."""
    boxes, powers, last = [], [0], None
    while 2 ** len(powers) <= to:
        boxes.append((powers[-1], powers[-1]))
        powers.append(places + len(boxes) - 1)
    for power in reversed(range(len(powers))):
        if to >> power & 1:
            if last is None:
                last = powers[power]
            else:
                boxes.append((last, powers[power]))
                last = places + len(boxes) - 1
    return (places, tuple(boxes), (last,))


def small_nets():
    """All nets of up to three places and two boxes, with all of their wires as ends."""
    nets = []
    for places in (1, 2, 3):
        for many in (0, 1, 2):
            choices = [list(product(range(places + t), repeat=2)) for t in range(many)]
            for boxes in product(*choices):
                nets.append((places, tuple(boxes), tuple(range(places + many))))
    return nets


def drawn_nets(many=150, most_boxes=10):
    """Nets drawn by fixed seeds."""
    nets = []
    for seed in range(many):
        draw = random.Random(seed)
        places, count = draw.randint(1, 12), draw.randint(0, most_boxes)
        boxes = []
        # With few wires to draw from words get long, with many they stay short.
        back = draw.choice([2, 4, 72])
        for t in range(count):
            low = max(0, places + t - back)
            boxes.append((draw.randrange(low, places + t), draw.randrange(low, places + t)))
        ends = [draw.randrange(places + count) for _ in range(draw.randint(1, 24))]
        nets.append((places, tuple(boxes), tuple(ends)))
    return nets


def ladder_nets():
    """Running nets whose words all are those of stretches, for each number of places."""
    nets = []
    for places in range(1, 13):
        row, last = [], 0
        for place in range(1, places):
            row.append((last, place))
            last = places + place - 1
        nets.append((places, tuple(row), (0,) + tuple(range(places, 2 * places - 1))))
        boxes, stands, step = [], list(range(places)), 1
        while step < places:
            ahead = list(stands)
            for place in range(step, places):
                boxes.append((ahead[place - step], ahead[place]))
                stands[place] = places + len(boxes) - 1
            step *= 2
        nets.append((places, tuple(boxes), tuple(stands)))
    return nets


def word(net, wire):
    """The word of the wire, written out as the document tells it."""
    places, boxes, _ = net
    if wire < places:
        return (wire,)
    first, second = boxes[wire - places]
    return word(net, first) + word(net, second)


def wires(net):
    return range(net[0] + len(net[1]))


def rests(net, wire, box):
    """Whether the wire rests on the box."""
    places, boxes, _ = net
    if wire < places:
        return False
    return wire == places + box or any([rests(net, below, box) for below in boxes[wire - places]])


def form(held, places, kind):
    """The form of a word, told from the word as the document tells it."""
    if kind == "any":
        return held
    if kind == "even":
        return tuple([held.count(place) for place in range(places)])
    if kind == "first":
        return tuple(sorted(set(held), key=held.index))
    if kind == "last":
        return tuple(sorted(set(held), key=lambda place: -held[::-1].index(place)))
    if kind == "sets":
        return tuple(sorted(set(held)))
    if kind == "ends":
        return (held[0], held[-1])
    return tuple([held.count(place) % kind for place in range(places)])


def total(held, row, join):
    """What a word comes to on a row of worths."""
    found = row[held[0]]
    for place in held[1:]:
        found = join(found, row[place])
    return found


class Odd:
    """A thing that refuses to be compared, measured, hashed or tested."""

    __hash__ = None

    def __eq__(self, other):
        raise RuntimeError("not to be compared")

    __lt__ = __le__ = __gt__ = __ge__ = __ne__ = __eq__

    def __len__(self):
        raise RuntimeError("not to be measured")

    def __bool__(self):
        raise RuntimeError("not to be tested")

    def __repr__(self):
        return "Odd()"


# Other things altogether, none of them a tuple or a whole number.
OTHERS = [None, True, False, "", "net", b"", b"12", [], [0], {}, {0: 1}, {1, 2}, frozenset(), object(), Odd(),
          int, len, ValueError("no"), range(3), ..., NotImplemented, 1j]

WRONG_NETS = [
    *OTHERS, 0, 1, 7, -1, (), (1,), (1, ()), (1, (), (0,), ()), (1, (), (0,), None),
    # lists in the place of tuples, at each level
    [1, (), (0,)], (1, [], (0,)), (1, (), [0]), (2, [(0, 1)], (0, 2)), (2, ([0, 1],), (0, 2)), (2, ((0, 1),), [0, 2]),
    # how many places
    (0, (), (0,)), (-1, (), (0,)), (13, (), (0,)), (True, (), (0,)), (None, (), (0,)), ("1", (), (0,)), ((1,), (), (0,)),
    ([1], (), (0,)), (10 ** 399, (), (0,)), (0, (), ()), (Odd(), (), (0,)),
    # boxes: too many, none at all, no pairs
    (1, tuple([(0, 0)] * 61), (0,)), (1, None, (0,)), (1, 0, (0,)), (1, "", (0,)), (1, {}, (0,)), (1, Odd(), (0,)),
    (1, (0,), (0,)), (1, ((),), (0,)), (1, ((0,),), (0,)), (1, ((0, 0, 0),), (0,)), (1, (None,), (0,)),
    (1, ("00",), (0,)), (2, (0, 1), (0,)), (1, ((0, 0), (0,)), (0,)), (1, (Odd(),), (0,)),
    # a box's wires: its own, later ones, negative ones, no numbers
    (2, ((0, 2),), (0,)), (2, ((2, 0),), (0,)), (2, ((0, 3),), (0,)), (2, ((0, 1), (0, 3)), (0,)), (2, ((0, 1), (3, 0)), (0,)),
    (2, ((2, 2), (0, 1)), (0,)), (2, ((3, 0), (0, 1)), (0,)), (2, ((-1, 0),), (0,)), (2, ((0, -1),), (0,)),
    (2, ((0, 1), (0, -1)), (0,)), (2, ((0, True),), (0,)), (2, ((False, 1),), (0,)), (2, ((0, None),), (0,)),
    (2, ((0, "1"),), (0,)), (2, ((0, (1,)),), (0,)), (2, (([0], 1),), (0,)), (2, ((0, Odd()),), (0,)), (2, ((0, 10 ** 399),), (0,)),
    # ends: none, too many, no wires
    (1, (), ()), (1, (), (0,) * 25), (1, (), None), (1, (), 0), (1, (), "0"), (1, (), Odd()), (1, (), (1,)), (1, (), (-1,)),
    (1, (), (True,)), (1, (), (False,)), (1, (), ((0,),)), (1, (), (None,)), (1, (), ([0],)), (1, (), (Odd(),)),
    (2, ((0, 1),), (0, 3)), (2, ((0, 1),), (3, 0)), (2, ((0, 1),), (0, -1)), (2, ((0, 1),), (0, 2, 2, "2")),
]

WRONG_KINDS = [None, True, False, "", "all", "Any", "ANY", "any ", " any", "an", "evens", "odd", "set", "end", "firsts",
               "2", "8", b"any", 0, 1, 9, -2, 10 ** 399, (), ("any",), ["any"], [2], {}, {"any"}, (2,), object(), Odd(),
               int, str, ...]

KINDS = ("any", "even", 2, 3, 4, 5, 6, 7, 8, "first", "last", "sets", "ends")


def caught(call, *given, **named):
    """What the call raises."""
    try:
        found = call(*given, **named)
    except Exception as error:
        return error
    raise AssertionError(f"no error, but {found!r}")
