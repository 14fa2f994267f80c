"""Histories that pass some worlds, avoid some worlds, or begin with some deeds."""

from hedgejoin.between import many_between, worlds_between
from hedgejoin.chains import many_histories
from hedgejoin.deeds import joined_world
from hedgejoin.errors import NoRun
from hedgejoin.fields import need_within, parted_pair
from hedgejoin.limits import check_most
from hedgejoin.partings import check_world
from hedgejoin.roads import check_road, deeds_within, first_history
from hedgejoin.rows import passed, plain_along

MOST_STOPS = 8
MOST_PASSED = 42


def check_route(pond, lower, upper, stops):
    """Raise the errors of the two worlds, then those of the stops."""
    check_road(pond, lower, upper)
    check_most(len(stops), MOST_STOPS)
    for stop in stops:
        check_world(pond, stop)


def count_through(pond, lower, upper, stops):
    """The number of histories that pass all stops."""
    check_route(pond, lower, upper, stops)
    worlds = [lower, *sorted(stops, key=len, reverse=True), upper]
    many = 1
    for before, after in zip(worlds, worlds[1:]):
        many = many * count_legs(pond, before, after)
    return many


def count_legs(pond, before, after):
    """The number of histories between any two worlds, 0 if the first is not within the second."""
    if parted_pair(pond, before, after) is not None:
        return 0
    return many_histories(pond, before, after)


def count_avoiding(pond, lower, upper, stops):
    """The number of histories that pass no stop."""
    check_route(pond, lower, upper, stops)
    return many_avoiding(pond, lower, upper, stops)


def many_avoiding(pond, lower, upper, stops):
    """What count_avoiding returns for arguments that are known to have no fault."""
    # For each stop, and at last for upper, the number of rows to it that met no stop before.
    met = []
    for stop in [*sorted(stops, key=len, reverse=True), upper]:
        late = [many * count_legs(pond, earlier, stop) for earlier, many in met]
        met.append((stop, count_legs(pond, lower, stop) - sum(late)))
    return met[-1][1]


def history_avoiding(pond, lower, upper, stops):
    """The first history that passes no stop."""
    check_route(pond, lower, upper, stops)
    if many_avoiding(pond, lower, upper, stops) == 0:
        raise NoRun()
    row = []
    world = lower
    while world != upper:
        for x, y in deeds_within(pond, world, upper):
            after = joined_world(pond, world, x, y)
            if many_avoiding(pond, after, upper, stops) > 0:
                break
        row.append((x, y))
        world = after
    return row


def passed_counts(pond, lower, upper):
    """Each world between the two, by rank, with the number of histories that pass it."""
    check_road(pond, lower, upper)
    check_most(many_between(pond, lower, upper), MOST_PASSED)
    return [
        (world, many_histories(pond, lower, world) * many_histories(pond, world, upper))
        for world in worlds_between(pond, lower, upper)
    ]


def count_after(pond, lower, upper, row):
    """The number of histories that begin with the row."""
    check_road(pond, lower, upper)
    return count_legs(pond, passed(pond, lower, row)[-1], upper)


def history_after(pond, lower, upper, row):
    """The first history that begins with the row."""
    check_road(pond, lower, upper)
    worlds = passed(pond, lower, row)
    need_within(pond, worlds[-1], upper)
    return [*plain_along(worlds, row), *first_history(pond, worlds[-1], upper)]
