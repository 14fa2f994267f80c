"""Histories taken apart into their small ponds, and put together again."""

from hedgejoin.chains import history_worlds
from hedgejoin.deeds import joined_world, plain_of
from hedgejoin.errors import BadSplit
from hedgejoin.partings import one_world, single_world
from hedgejoin.ponds import Pond
from hedgejoin.roads import check_road
from hedgejoin.rows import is_history
from hedgejoin.smalls import check_number, deed_in, small_index, small_lots


def split_history(pond, lower, upper, row):
    """The schedule and the parts of the history."""
    check_road(pond, lower, upper)
    return split_row(pond, lower, upper, row)


def split_row(pond, lower, upper, row):
    """What split_history returns for worlds of which the first is known to lie within the second."""
    worlds = history_worlds(pond, lower, upper, row)
    smalls = small_lots(pond, lower, upper)
    schedule = []
    parts = [[] for _ in smalls]
    for world, (x, y) in zip(worlds, row):
        index = small_index(smalls, world, x, y)
        schedule.append(index)
        parts[index].append(deed_in(smalls[index], world, x, y))
    return (schedule, parts)


def mix_history(pond, lower, upper, schedule, parts):
    """The history to which the schedule and the parts belong."""
    check_road(pond, lower, upper)
    smalls = small_lots(pond, lower, upper)
    check_schedule(smalls, schedule)
    check_parts(smalls, parts)
    return mixed_row(pond, lower, schedule, parts)


def check_schedule(smalls, schedule):
    """Raise BadSplit if an item is no index, or if one does not occur as often as it is due."""
    if any([index < 0 or index >= len(smalls) for index in schedule]):
        raise BadSplit(len(smalls))
    for place, lots in enumerate(smalls):
        if schedule.count(place) != len(lots) - 1:
            raise BadSplit(place)


def check_parts(smalls, parts):
    """Raise BadSplit if these are not one history for each small pond."""
    check_number(smalls, parts)
    for place, lots in enumerate(smalls):
        small = Pond(lots)
        if not is_history(small, single_world(small), one_world(small), parts[place]):
            raise BadSplit(place)


def mixed_row(pond, lower, schedule, parts):
    """What mix_history returns for a schedule and parts that are known to belong to a history."""
    world = lower
    row = []
    for at, index in enumerate(schedule):
        # A lot of a small pond stands for its field: its deeds are deeds of the whole pond.
        x, y = parts[index][schedule[:at].count(index)]
        row.append(plain_of(world, x, y))
        world = joined_world(pond, world, x, y)
    return row
