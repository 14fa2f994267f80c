"""Ends: the worlds in which no deed stands, and papers that show a world to be one."""

from hedgejoin.counts import all_worlds
from hedgejoin.deeds import crossed_by, deeds, joined_world, refused_deeds
from hedgejoin.fields import holder, parted_pair
from hedgejoin.limits import check_most
from hedgejoin.partings import check_world
from hedgejoin.shore import place_pairs

MOST_ENDING = 5


def is_end(pond, world):
    """True if no deed stands in the world."""
    return len(deeds(pond, world)) == 0


def fences(pond, world):
    """The plain deeds that are refused for strife, sorted, each with the strife."""
    return [(deed, thing) for deed, (word, thing) in refused_deeds(pond, world) if word == "strife"]


def ends(pond, start):
    """The ends that come of the start, in code order."""
    check_most(len(pond), MOST_ENDING)
    check_world(pond, start)
    return [
        world
        for world in all_worlds(pond)
        if parted_pair(pond, start, world) is None and is_end(pond, world)
    ]


def greedy_end(pond, start):
    """The end that is reached by doing the first deed that stands again and again."""
    world = start
    for x, y in greedy_row(pond, start):
        world = joined_world(pond, world, x, y)
    return world


def greedy_row(pond, start):
    """The deeds that lead to greedy_end."""
    row = []
    world = start
    stands = deeds(pond, world)
    while len(stands) > 0:
        row.append(stands[0])
        world = joined_world(pond, world, stands[0][0], stands[0][1])
        stands = deeds(pond, world)
    return row


def is_end_paper(pond, world, items):
    """True if the items show that the world is an end: a strife for each uncrossed deed."""
    check_world(pond, world)
    due = uncrossed_deeds(pond, world)
    shown = [tuple(deed) for deed, _ in items]
    if not all([deed in due for deed in shown]) or not all([deed in shown for deed in due]):
        return False
    return all([is_fence(pond, world, deed, pair) for deed, pair in items])


def uncrossed_deeds(pond, world):
    """The plain deeds of each two fields that are met by one path."""
    pairs = [(world[low][0], world[high][0]) for low, high in place_pairs(len(world))]
    return [(x, y) for x, y in pairs if len(crossed_by(pond, world, x, y)) == 0]


def is_fence(pond, world, deed, pair):
    """True if the pair is a strife with one lot in each of the two fields of the deed."""
    both = [*holder(world, deed[0]), *holder(world, deed[1])]
    # No strife lies in one field of a world, so such a strife has a lot in each field.
    return is_strife(pond, pair) and pair[0] in both and pair[1] in both


def is_strife(pond, pair):
    """True if the two texts are two lots at strife, in any order."""
    return pair[0] in pond and pair[1] in pond and pond.at_strife(pair[0], pair[1])


def fewest_end(pond, start):
    """Of the ends that come of the start, the first one with the fewest fields."""
    return min(ends(pond, start), key=len)
