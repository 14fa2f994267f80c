"""The common past and the common future of worlds, and reasons why two lots come together."""

from hedgejoin.errors import BadSize
from hedgejoin.fields import holder
from hedgejoin.partings import (
    by_marks, chained, check_parting, check_peace, check_world, crossing_of, marks_of, strife_of,
)
from hedgejoin.ponds import lot_pairs
from hedgejoin.shore import crossed


def check_worlds(pond, worlds):
    """Raise BadSize(0) for the empty row, or the errors of the worlds."""
    if len(worlds) == 0:
        raise BadSize(0)
    for world in worlds:
        check_world(pond, world)


def common_past(pond, worlds):
    """The greatest world that lies within each of the worlds."""
    check_worlds(pond, worlds)
    return cut_of(pond, worlds)


def cut_of(pond, partings):
    """The parting in which two lots are together exactly if they are in all the partings."""
    rows = [marks_of(pond, parting) for parting in partings]
    return by_marks(pond, list(zip(*rows)))


def close(pond, parting):
    """The smallest uncrossed parting within which the parting lies."""
    check_parting(pond, parting)
    return closing_of(pond, parting)


def closing_of(pond, groups):
    """The closing of the chain of the groups."""
    closing = chained(pond, groups)
    lots = crossing_of(pond, closing)
    while lots is not None:
        closing = chained(pond, [*closing, lots])
        lots = crossing_of(pond, closing)
    return closing


def future_of(pond, worlds):
    """The closing of the chain of the partings."""
    return closing_of(pond, [field for world in worlds for field in world])


def common_future(pond, worlds):
    """The smallest world within which each of the worlds lies."""
    check_worlds(pond, worlds)
    future = future_of(pond, worlds)
    check_peace(pond, future)
    return future


def future_paper(pond, worlds):
    """None, or a strife that would come together and the reasons why, if there is no future."""
    check_worlds(pond, worlds)
    pair = strife_of(pond, future_of(pond, worlds))
    if pair is None:
        return None
    return (pair, tuple(reasons_for(pond, worlds, pair)))


def meeting_costs(pond, first, second):
    """The numbers of deeds by which two worlds are apart in their past and in their future."""
    check_worlds(pond, [first, second])
    past = cut_of(pond, [first, second])
    future = future_of(pond, [first, second])
    fields = len(first) + len(second)
    to_future = None if strife_of(pond, future) is not None else fields - 2 * len(future)
    return (2 * len(past) - fields, to_future)


def check_question(pond, partings, x, y):
    """Raise the errors of the question why two lots are together in a closing."""
    for parting in partings:
        check_parting(pond, parting)
    pond.pair_of(x, y)


def why_together(pond, partings, x, y):
    """Reasons why the two lots are together in the closing of the chain, or None."""
    check_question(pond, partings, x, y)
    return reasons_for(pond, partings, pond.pair_of(x, y))


def reasons_for(pond, partings, pair):
    """What why_together returns for a pair of lots, the earlier one first."""
    reasons = given_reasons(pond, partings)
    at = 0
    while at < len(reasons):
        for before in range(at):
            reasons = [*reasons, *drawn_reasons(pond, reasons, before, at)]
        at = at + 1
    pairs = [reason[-2:] for reason in reasons]
    if pair not in pairs:
        return None
    return reasons[:pairs.index(pair) + 1]


def given_reasons(pond, partings):
    """One reason for each two lots that are together in a parting."""
    places = {}
    for at, parting in enumerate(partings):
        for x, y in lot_pairs(pond):
            if y in holder(parting, x):
                places[(x, y)] = at
    return [("given", places[(x, y)], x, y) for x, y in places]


def drawn_reasons(pond, reasons, one, two):
    """What can be drawn from two of the reasons and is not known by any of them."""
    word = drawing_word(pond, reasons[one][-2:], reasons[two][-2:])
    if word is None:
        return []
    known = [reason[-2:] for reason in reasons]
    lots = reasons[one][-2:] + reasons[two][-2:]
    return [
        (word, one, two, x, y)
        for x, y in lot_pairs(pond)
        if x in lots and y in lots and (x, y) not in known
    ]


def drawing_word(pond, one, two):
    """The word of the reasons that can be drawn from two pairs of lots, or None."""
    if one[0] in two or one[1] in two:
        return "linked"
    places = [pond.position(lot) for lot in one + two]
    return "crossed" if crossed(places[:2], places[2:]) else None


def is_why(pond, partings, x, y, reasons):
    """True if the reasons show why the two lots are together in the closing of the chain."""
    check_question(pond, partings, x, y)
    for at in range(len(reasons)):
        if not is_reason(pond, partings, reasons, at):
            return False
    return len(reasons) > 0 and sorted(reasons[-1][-2:]) == sorted([x, y])


def is_reason(pond, partings, reasons, at):
    """True if the item at this place, behind items that are reasons, is a reason."""
    reason = reasons[at]
    if len(reason) < 4 or reason[-1] not in pond or reason[-2] not in pond:
        return False
    if reason[-1] == reason[-2]:
        return False
    if reason[0] == "given":
        return len(reason) == 4 and is_given(partings, reason)
    if len(reason) != 5 or not are_before(reason[1:3], at):
        return False
    one = reasons[reason[1]][-2:]
    two = reasons[reason[2]][-2:]
    lots = one + two
    return reason[0] == drawing_word(pond, one, two) and reason[-1] in lots and reason[-2] in lots


def is_given(partings, reason):
    """True if the two lots are together in the parting that the reason names."""
    _, at, x, y = reason
    return are_before([at], len(partings)) and y in holder(partings[at], x)


def are_before(indexes, limit):
    """True if all of the integers are indexes of items before the limit."""
    return all([0 <= index < limit for index in indexes])
