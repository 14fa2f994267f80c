"""Rows of deeds: replaying them, comparing them, and exchanging neighboring deeds."""

from hedgejoin.deeds import cause_of, joined_world, judged_deeds, plain_of
from hedgejoin.errors import OutOfRange, StepRefused
from hedgejoin.fields import parted_pair
from hedgejoin.partings import check_world


def replay(pond, world, row):
    """The world after the row."""
    return trace(pond, world, row)[-1]


def trace(pond, world, row):
    """The worlds passed, from the world to the last one."""
    check_world(pond, world)
    return passed(pond, world, row)


def passed(pond, world, row):
    """What trace returns from what is known to be a world."""
    worlds = [world]
    for place, (x, y) in enumerate(row):
        cause = cause_of(pond, worlds[-1], x, y)
        if cause is not None:
            raise StepRefused(place, cause)
        worlds.append(joined_world(pond, worlds[-1], x, y))
    return worlds


def steps(pond, world, row):
    """Yield the index, the plain deed and the world after it for each deed."""
    worlds = trace(pond, world, row)
    for place, deed in enumerate(plain_along(worlds, row)):
        yield (place, deed, worlds[place + 1])


def plain_row(pond, world, row):
    """The plain deeds of the row."""
    return plain_along(trace(pond, world, row), row)


def plain_along(worlds, row):
    """The plain deeds of a row that passes these worlds."""
    return [plain_of(before, x, y) for before, (x, y) in zip(worlds, row)]


def is_history(pond, start, end, row):
    """True if the row is a history from start to end."""
    check_world(pond, start)
    check_world(pond, end)
    try:
        worlds = passed(pond, start, row)
    except StepRefused:
        return False
    return worlds[-1] == end


def same_history(pond, world, first, second):
    """True if the two rows of deeds pass the same worlds."""
    worlds = trace(pond, world, first)
    return passed(pond, world, second) == worlds


def ways_at(pond, world, row, at):
    """The ways between the world before the deed `at` and the world after the next deed."""
    worlds = trace(pond, world, row)
    limit = max(0, len(row) - 1)
    if at < 0 or at >= limit:
        raise OutOfRange(at, limit)
    return ways_between(pond, worlds[at], worlds[at + 2])


def ways_between(pond, before, after):
    """The ways between two worlds that are two deeds apart, sorted."""
    ways = []
    for deed, cause in judged_deeds(pond, before):
        middle = joined_world(pond, before, deed[0], deed[1])
        if cause is None and parted_pair(pond, middle, after) is None:
            # The second deed joins the two fields that are not left after it.
            last = tuple([field[0] for field in middle if field not in after])
            ways.append((deed, last))
    return ways


def exchange(pond, world, row, at, *, by=1):
    """The plain row in which the deeds `at` and `at + 1` are replaced by another way."""
    ways = ways_at(pond, world, row, at)
    plain = plain_row(pond, world, row)
    present = ways.index((plain[at], plain[at + 1]))
    first, second = ways[(present + by) % len(ways)]
    return [*plain[:at], first, second, *plain[at + 2:]]
