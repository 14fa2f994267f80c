"""Questions about the fields of partings: who is together, within, cut, chain and hedges."""

from hedgejoin.errors import NotWithin
from hedgejoin.partings import by_marks, chained, check_parting, marks_of, parting_of
from hedgejoin.ponds import check_lot, lot_pairs, sub_pond
from hedgejoin.shore import crossing_places, place_pairs, step


def field_of(pond, parting, lot):
    """The field that holds the lot."""
    check_parting(pond, parting)
    check_lot(pond, lot)
    return holder(parting, lot)


def holder(parting, lot):
    """The field of the parting that holds what is known to be one of its lots."""
    return [field for field in parting if lot in field][0]


def next_in_field(pond, parting, lot, *, back=False):
    """The first lot of the same field that is met by going around from the lot."""
    field = field_of(pond, parting, lot)
    return neighbor(field, lot, back)


def neighbor(field, lot, back):
    """The lot that comes after the lot in its field, or before it, going around."""
    by = -1 if back else 1
    return field[step(len(field), field.index(lot), by=by)]


def are_together(pond, parting, x, y):
    """True if the two lots lie in one field."""
    field = field_of(pond, parting, x)
    check_lot(pond, y)
    return y in field


def groups_cross(pond, first, second):
    """The first four lots, by their positions, at which the two groups cross, or None."""
    one = [pond.position(lot) for lot in first]
    two = [pond.position(lot) for lot in second]
    # Repeated lots change nothing, but many of them would make very many fours.
    places = crossing_places(sorted(set(one)), sorted(set(two)))
    if places is None:
        return None
    return tuple([pond.names[at] for at in places])


def within(pond, lower, upper):
    """True if the lower parting lies within the upper one."""
    return first_parted(pond, lower, upper) is None


def first_parted(pond, lower, upper):
    """The first pair of lots that are together in the lower and apart in the upper, or None."""
    check_parting(pond, lower)
    check_parting(pond, upper)
    return parted_pair(pond, lower, upper)


def parted_pair(pond, lower, upper):
    """What first_parted returns for what are known to be partings."""
    low = marks_of(pond, lower)
    high = marks_of(pond, upper)
    for one, two in place_pairs(len(pond)):
        if low[one] == low[two] and high[one] != high[two]:
            return (pond.names[one], pond.names[two])
    return None


def need_within(pond, lower, upper):
    """Raise NotWithin if the lower of two partings does not lie within the upper one."""
    pair = parted_pair(pond, lower, upper)
    if pair is not None:
        raise NotWithin(pair)


def parts_of(pond, lower, upper):
    """For each field of the upper parting the tuple of the fields of the lower one in it."""
    check_parting(pond, lower)
    check_parting(pond, upper)
    need_within(pond, lower, upper)
    return [tuple([part for part in lower if part[0] in field]) for field in upper]


def cut(pond, first, second):
    """The parting in which two lots are together exactly if they are in both partings."""
    check_parting(pond, first)
    check_parting(pond, second)
    return by_marks(pond, list(zip(marks_of(pond, first), marks_of(pond, second))))


def chain(pond, first, second):
    """The smallest parting within which both partings lie. It may cross."""
    check_parting(pond, first)
    check_parting(pond, second)
    return chained(pond, first + second)


def hedges(pond, parting):
    """The hedges of the parting, in pair order."""
    check_parting(pond, parting)
    nexts = {lot: neighbor(field, lot, False) for field in parting for lot in field}
    return [(x, y) for x, y in lot_pairs(pond) if nexts[x] == y or nexts[y] == x]


def from_hedges(pond, pairs):
    """The parting in which two lots are together exactly if a chain of the pairs joins them."""
    return chained(pond, pairs)


def restrict(pond, parting, lots):
    """The parting of the sub-pond of the lots in which the same lots are together."""
    check_parting(pond, parting)
    part = sub_pond(pond, lots)
    return by_marks(part, marks_of(part, parting))


def take_out(pond, parting, lots):
    """The parting in which the lots are single and all others are together as before."""
    check_parting(pond, parting)
    for lot in lots:
        check_lot(pond, lot)
    return parting_of(pond, [[lot for lot in field if lot not in lots] for field in parting])


def sizes_of(pond, parting):
    """The numbers of lots of the fields, greatest first."""
    check_parting(pond, parting)
    return tuple(sorted([len(field) for field in parting], reverse=True))
