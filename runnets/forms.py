"""The forms of words for the kinds of joins. Nets and kinds here are right ones; nothing is checked."""

from runnets.wires import run_through, short_words


def join_firsts(ahead, behind):
    """Places in the order in which they first come."""
    return ahead + tuple([place for place in behind if place not in ahead])


def join_lasts(ahead, behind):
    """Places in the order in which they last come."""
    return tuple([place for place in ahead if place not in behind]) + behind


def join_sets(ahead, behind):
    """The places that come, ascending."""
    return tuple(sorted(join_firsts(ahead, behind)))


def join_ends(ahead, behind):
    """The first and the last place."""
    return (ahead[0], behind[1])


def join_counts(ahead, behind):
    """How often each place comes."""
    return tuple([one + two for one, two in zip(ahead, behind)])


def place_counts(net):
    """For each wire, in order, how often each place comes in its word."""
    places = range(net[0])
    single = [tuple([int(place == other) for other in places]) for place in places]
    return run_through(net, single, join_counts)


def wire_forms(net, kind):
    """The form of each wire's word, in order; for any None for a word that is too long."""
    alone = [(place,) for place in range(net[0])]
    if kind == "any":
        return short_words(net)
    if kind == "first":
        return run_through(net, alone, join_firsts)
    if kind == "last":
        return run_through(net, alone, join_lasts)
    if kind == "sets":
        return run_through(net, alone, join_sets)
    if kind == "ends":
        return run_through(net, [(place, place) for place in range(net[0])], join_ends)
    counts = place_counts(net)
    if kind == "even":
        return counts
    return [tuple([many % kind for many in row]) for row in counts]


def stretch_form(places, stretch, kind):
    """The form of the stretch's word, for nets of so many places."""
    first, last = stretch
    if kind == "ends":
        return stretch
    if kind in ("any", "first", "last", "sets"):
        return tuple(range(first, last + 1))
    # Each place comes once or not at all, which is its own rest by each number from 2 on.
    return tuple([int(first <= place <= last) for place in range(places)])
