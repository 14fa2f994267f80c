"""Strifes: which of them keep worlds from coming, and what comes when they are lifted."""

from hedgejoin.chains import many_histories
from hedgejoin.commons import closing_of
from hedgejoin.counts import all_worlds
from hedgejoin.deeds import deeds, joined_world
from hedgejoin.ends import MOST_ENDING, ends, fewest_end, is_strife
from hedgejoin.errors import BadSize, NoStrife
from hedgejoin.fields import parted_pair
from hedgejoin.limits import check_most
from hedgejoin.partings import check_parting, check_world, pairs_in
from hedgejoin.roads import first_history
from hedgejoin.tree import united_fields


def lifted(pond, parting):
    """The strifes that are together in the closing of the parting, in pair order."""
    check_parting(pond, parting)
    return pairs_in(closing_of(pond, parting), pond.strifes)


def other_strifes(pond, start, strife):
    """The strifes other than this one that are together in its M, in pair order."""
    united = united_fields(pond, start, strife[0], strife[1])
    return [other for other in pairs_in(united, pond.strifes) if other != strife]


def idle_strifes(pond, start):
    """The idle strifes, in pair order, each with the first other strife in its M."""
    check_world(pond, start)
    others = [(strife, other_strifes(pond, start, strife)) for strife in pond.strifes]
    return [(strife, found[0]) for strife, found in others if len(found) > 0]


def live_strifes(pond, start):
    """The live strifes, in pair order, each with its M."""
    check_world(pond, start)
    return [
        (strife, united_fields(pond, start, strife[0], strife[1]))
        for strife in pond.strifes
        if len(other_strifes(pond, start, strife)) == 0
    ]


def is_idle_paper(pond, start, strife, other):
    """True if `other` is another strife that is together in the M of `strife`."""
    check_world(pond, start)
    pair = pond.pair_of(strife[0], strife[1])
    if not pond.at_strife(strife[0], strife[1]):
        raise NoStrife(pair)
    return is_strife(pond, other) and pond.pair_of(other[0], other[1]) in other_strifes(pond, start, pair)


def core_strifes(pond, start):
    """The strifes that are left when each is lifted in turn if it is idle by then."""
    check_world(pond, start)
    core = pond
    for strife in pond.strifes:
        if len(other_strifes(core, start, strife)) > 0:
            core = core.without_strife(strife[0], strife[1])
    return list(core.strifes)


def check_fields(start, fields):
    """Raise BadSize if the number of fields is not from 1 to that of the start."""
    if fields < 1 or fields > len(start):
        raise BadSize(fields)


def check_start(pond, start):
    """Raise TooMany for a pond with too many lots, then the errors of the start."""
    check_most(len(pond), MOST_ENDING)
    check_world(pond, start)


def worlds_over(pond, start, fields):
    """The worlds over the start, in code order; if `fields` is an integer, those with so many."""
    worlds = all_worlds(pond, fields=fields)
    return [world for world in worlds if parted_pair(pond, start, world) is None]


def least_lift(pond, start, *, fields):
    """The fewest strifes to be lifted for so many fields, and the parting that then comes."""
    check_start(pond, start)
    check_fields(start, fields)
    choices = worlds_over(pond.bare(), start, fields)
    least = min(choices, key=lambda parting: len(pairs_in(parting, pond.strifes)))
    return (tuple(pairs_in(least, pond.strifes)), least)


def is_lift(pond, start, strifes, *, fields):
    """True if a world with so many fields comes of the start without these strifes."""
    check_start(pond, start)
    rest = pond
    for x, y in strifes:
        rest = rest.without_strife(x, y)
    check_fields(start, fields)
    return len(worlds_over(rest, start, fields)) > 0


def reach_number(pond, start):
    """The smallest number of fields of a world that comes of the start."""
    return len(fewest_end(pond, start))


def costly_deeds(pond, world):
    """The costly plain deeds, sorted, each with the reach number of the world after it."""
    least = reach_number(pond, world)
    after = [(deed, joined_world(pond, world, deed[0], deed[1])) for deed in deeds(pond, world)]
    numbers = [(deed, reach_number(pond, other)) for deed, other in after]
    return [(deed, number) for deed, number in numbers if number > least]


def thrifty_row(pond, start):
    """The first history from the start to fewest_end."""
    return first_history(pond, start, fewest_end(pond, start))


def end_counts(pond, start):
    """The ends that come of the start, in code order, each with the number of histories."""
    return [(end, many_histories(pond, start, end)) for end in ends(pond, start)]


def row_counts(pond, start):
    """For each number of deeds the number of histories of so many deeds from the start."""
    check_start(pond, start)
    counts = [0] * len(start)
    for world in worlds_over(pond, start, None):
        many = len(start) - len(world)
        counts[many] = counts[many] + many_histories(pond, start, world)
    return [count for count in counts if count > 0]
