"""Bridges: rows of exchanges that turn one history into another with the same start and end.

A history is known by the worlds that it passes. An exchange at `at` puts another
world in the place of the one that stands between the deeds `at` and `at + 1`.
"""

from hedgejoin.chains import history_worlds, many_histories
from hedgejoin.deeds import joined_world, pasts
from hedgejoin.errors import EndsDiffer, OutOfRange
from hedgejoin.fields import parted_pair
from hedgejoin.limits import check_most, check_range
from hedgejoin.roads import check_road, deeds_within
from hedgejoin.rows import passed, trace
from hedgejoin.shuffles import mixed_row, split_row

MOST_DEEDS = 4
MOST_SEARCHED = 16


def exchange_all(pond, start, row, bridge):
    """The plain row that the exchanges of the bridge make of the row."""
    worlds = carry_out(pond, trace(pond, start, row), bridge)
    return [plain_between(before, after) for before, after in zip(worlds, worlds[1:])]


def carry_out(pond, worlds, bridge):
    """The worlds that a history passes after the exchanges of the bridge."""
    present = worlds
    for at, by in bridge:
        check_at(len(worlds) - 1, at)
        middles = middles_of(pond, present[at], present[at + 2])
        place = (middles.index(present[at + 1]) + by) % len(middles)
        present = with_middle(present, at, middles[place])
    return present


def check_at(many, at):
    """Raise OutOfRange if a history of so many deeds has no exchange at this place."""
    check_range(at, max(0, many - 1))


def middles_of(pond, before, after):
    """The worlds between two worlds that are two deeds apart, in the order of the ways."""
    return [joined_world(pond, before, x, y) for x, y in deeds_within(pond, before, after)]


def with_middle(worlds, at, middle):
    """The worlds with another one between the deeds `at` and `at + 1`."""
    return [*worlds[:at + 1], middle, *worlds[at + 2:]]


def plain_between(before, after):
    """The plain deed that leads from one world to the other."""
    return tuple([field[0] for field in before if field not in after])


def find_bridge(pond, start, first, second):
    """A bridge from the first row to the second one."""
    worlds = trace(pond, start, first)
    goal = passed(pond, start, second)
    if worlds[-1] != goal[-1]:
        raise EndsDiffer()
    check_most(len(first), MOST_DEEDS)
    return shortest_bridge(pond, worlds, goal)


def shortest_bridge(pond, worlds, goal):
    """The first of the shortest bridges between two histories that pass these worlds."""
    bridges = {tuple(worlds): []}
    # The histories of a level stand in the order of their bridges, so the first bridge that
    # is found to a history is the first one of its length.
    level = [worlds]
    while tuple(goal) not in bridges:
        level = [after for present in level for after in reach(pond, present, bridges)]
    return bridges[tuple(goal)]


def reach(pond, worlds, bridges):
    """The histories that one exchange makes of this one and that had no bridge before."""
    found = []
    for at in range(len(worlds) - 2):
        middles = middles_of(pond, worlds[at], worlds[at + 2])
        place = middles.index(worlds[at + 1])
        for by in range(1, len(middles)):
            after = with_middle(worlds, at, middles[(place + by) % len(middles)])
            if tuple(after) not in bridges:
                bridges[tuple(after)] = [*bridges[tuple(worlds)], (at, by)]
                found.append(after)
    return found


def is_bridge(pond, start, first, second, bridge):
    """True if the bridge leads from the first row to the second one."""
    worlds = trace(pond, start, first)
    goal = passed(pond, start, second)
    try:
        present = carry_out(pond, worlds, bridge)
    except OutOfRange:
        return False
    return present == goal


def middle_worlds(pond, lower, upper):
    """The worlds that are one deed away from both worlds, in code order."""
    check_road(pond, lower, upper)
    return [
        world
        for world in pasts(pond, upper)
        if len(world) == len(lower) - 1 and parted_pair(pond, lower, world) is None
    ]


def is_across(pond, lower, upper, row, at):
    """True if the two deeds that an exchange replaces belong to different small ponds."""
    check_road(pond, lower, upper)
    schedule, _ = split_row(pond, lower, upper, row)
    check_at(len(schedule), at)
    return schedule[at] != schedule[at + 1]


def sorted_row(pond, lower, upper, row):
    """The sorted history that is kin to the row."""
    check_road(pond, lower, upper)
    schedule, parts = split_row(pond, lower, upper, row)
    return mixed_row(pond, lower, sorted(schedule), parts)


def sorting_bridge(pond, lower, upper, row):
    """The exchanges that sort the row."""
    check_road(pond, lower, upper)
    schedule, _ = split_row(pond, lower, upper, row)
    return swaps_of(schedule)


def swaps_of(numbers):
    """The exchanges that sort the numbers, each where first a greater one stands before a smaller."""
    rest = list(numbers)
    swaps = []
    while rest != sorted(rest):
        at = [place for place in range(len(rest) - 1) if rest[place] > rest[place + 1]][0]
        rest = [*rest[:at], rest[at + 1], rest[at], *rest[at + 2:]]
        swaps.append((at, 1))
    return swaps


def kin_paper(pond, lower, upper, first, second):
    """The first place at which the parts of the two histories differ, or None."""
    check_road(pond, lower, upper)
    _, parts = split_row(pond, lower, upper, first)
    _, others = split_row(pond, lower, upper, second)
    return first_difference(parts, others)


def first_difference(parts, others):
    """The first small pond and the first index in its part where the two differ, or None."""
    for place, (one, two) in enumerate(zip(parts, others)):
        for index, deed in enumerate(one):
            if deed != two[index]:
                return (place, index)
    return None


def kin_distance(pond, lower, upper, first, second):
    """The kin distance of the two histories, or None if they are not kin."""
    bridge = kin_bridge(pond, lower, upper, first, second)
    return None if bridge is None else len(bridge)


def kin_bridge(pond, lower, upper, first, second):
    """A bridge of the two histories with as few exchanges as possible, or None if not kin."""
    check_road(pond, lower, upper)
    schedule, parts = split_row(pond, lower, upper, first)
    other_schedule, others = split_row(pond, lower, upper, second)
    if first_difference(parts, others) is not None:
        return None
    target = numbered(other_schedule)
    return swaps_of([target.index(deed) for deed in numbered(schedule)])


def numbered(schedule):
    """For each deed its small pond and its index in the part there."""
    return [(index, schedule[:at].count(index)) for at, index in enumerate(schedule)]


def least_bridge(pond, lower, upper, first, second):
    """The first of the bridges with as few exchanges as possible."""
    check_road(pond, lower, upper)
    check_most(many_histories(pond, lower, upper), MOST_SEARCHED)
    worlds = history_worlds(pond, lower, upper, first)
    return shortest_bridge(pond, worlds, history_worlds(pond, lower, upper, second))
