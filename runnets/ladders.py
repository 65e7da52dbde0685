"""Ladders: four running nets for each number of places, their joins and depths."""

from runnets.drafts import Draft
from runnets.errors import InvalidName, InvalidNumber
from runnets.nets import check_places
from runnets.plain import is_whole

MOST_COUNTED = 4096


def row_totals(draft, wires):
    """The wires of the running totals of these wires, one behind the other."""
    found = [wires[0]]
    for wire in wires[1:]:
        found.append(draft.joined(found[-1], wire))
    return found


def halves_totals(draft, wires):
    """The wires of the running totals of these wires, by halves."""
    if len(wires) == 1:
        return wires
    half = (len(wires) + 1) // 2
    front, back = halves_totals(draft, wires[:half]), halves_totals(draft, wires[half:])
    return front + [draft.joined(front[-1], wire) for wire in back]


def doubles_totals(draft, wires):
    """The wires of the running totals of these wires, by doubles."""
    found = wires
    for step in doubles_of(len(wires)):
        found = found[:step] + [draft.joined(ahead, behind) for ahead, behind in zip(found, found[step:])]
    return found


def pairs_totals(draft, wires):
    """The wires of the running totals of these wires, by pairs."""
    if len(wires) == 1:
        return wires
    pairs = [draft.joined(ahead, behind) for ahead, behind in zip(wires[::2], wires[1::2])]
    told, found = pairs_totals(draft, pairs), [wires[0]]
    for place in range(1, len(wires)):
        half = place // 2
        found.append(told[half] if place == 2 * half + 1 else draft.joined(told[half - 1], wires[place]))
    return found


def doubles_of(places):
    """The numbers 1, 2, 4, .. below places."""
    return [1 << step for step in range(least_depth(places))]


def least_depth(places):
    """The least depth d with 2 ** d from places on."""
    return (places - 1).bit_length()


def row_counts(places):
    """The joins and the depth of the row."""
    return (places - 1, places - 1)


def halves_joins(places):
    """The joins by halves."""
    if places == 1:
        return 0
    back = places // 2
    return halves_joins(places - back) + halves_joins(back) + back


def halves_counts(places):
    """The joins and the depth by halves."""
    return (halves_joins(places), least_depth(places))


def doubles_counts(places):
    """The joins and the depth by doubles."""
    return (sum([places - step for step in doubles_of(places)]), least_depth(places))


def pairs_joins(places):
    """The joins by pairs."""
    if places == 1:
        return 0
    return places - 1 + pairs_joins(places // 2)


def pairs_depth(places):
    """The depth by pairs, the greatest one of the ends."""
    found = [0]
    for place in range(1, places):
        half = place // 2
        found.append(found[half] + 1 if place == 2 * half + 1 else found[half - 1] + 2)
    return max(found)


def pairs_counts(places):
    """The joins and the depth by pairs."""
    return (pairs_joins(places), pairs_depth(places))


TOTALS = {"row": row_totals, "halves": halves_totals, "doubles": doubles_totals, "pairs": pairs_totals}
COUNTS = {"row": row_counts, "halves": halves_counts, "doubles": doubles_counts, "pairs": pairs_counts}


def check_name(name):
    """Raise InvalidName for the name of no ladder."""
    # Only texts are looked up: other things may refuse to be compared.
    if type(name) is not str or name not in TOTALS:
        raise InvalidName(name)


def ladder(name, places):
    """The ladder of this name."""
    check_name(name)
    check_places(places)
    draft = Draft(places)
    told_by = TOTALS[name]
    return draft.net_with(told_by(draft, list(range(places))))


def ladder_counts(name, places):
    """The joins and the depth of the ladder of this name, of up to MOST_COUNTED places."""
    check_name(name)
    if not is_whole(places, 1, MOST_COUNTED):
        raise InvalidNumber(places)
    counted_by = COUNTS[name]
    return counted_by(places)
