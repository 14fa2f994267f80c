"""The tree of a world, whose nodes are the fields and the paths, and the ways through it."""

from hedgejoin.deeds import check_apart, crossed_by, joined_world
from hedgejoin.errors import BadParting, CrossedField
from hedgejoin.fields import holder
from hedgejoin.mirror import paths_of
from hedgejoin.partings import (
    chained, check_peace, check_world, crossing_of, from_code, marks_of,
)
from hedgejoin.ponds import check_lot


def way(pond, world, x, y):
    """The way through the tree from the field of one lot to that of the other."""
    check_world(pond, world)
    check_lot(pond, x)
    check_lot(pond, y)
    return way_between(pond, world, x, y)


def way_between(pond, world, x, y):
    """What way returns for lots of what is known to be uncrossed."""
    return way_on(world, paths_of(pond, world), [holder(world, x)], holder(world, y))


def way_on(world, paths, trail, last):
    """The way that begins with the trail and ends with the field `last`, or None."""
    if trail[-1] == last:
        return trail
    for path in paths:
        if path in trail[1::2] or not do_meet(trail[-1], path):
            continue
        for field in world:
            # In a tree, only the node just left could be met a second time.
            if field != trail[-1] and do_meet(field, path):
                found = way_on(world, paths, [*trail, path, field], last)
                if found is not None:
                    return found
    return None


def do_meet(field, path):
    """True if the path meets the field."""
    return any([gate in field for gate in path])


def is_way(pond, world, x, y, items):
    """True if the items are that way, item by item."""
    return list(items) == way(pond, world, x, y)


def distance(pond, world, x, y):
    """The number of paths in the way from the field of one lot to that of the other."""
    return len(way(pond, world, x, y)) // 2


def bring_together(pond, world, x, y):
    """The smallest world over this one in which the two lots are together."""
    check_world(pond, world)
    check_lot(pond, x)
    check_lot(pond, y)
    united = united_fields(pond, world, x, y)
    check_peace(pond, united)
    return united


def united_fields(pond, world, x, y):
    """The smallest uncrossed parting over the world in which the two lots are together."""
    fields = way_between(pond, world, x, y)[::2]
    return chained(pond, [*world, [lot for field in fields for lot in field]])


def tree_rows(pond, world):
    """For each lot the index of its field, and that of the path of its gate."""
    check_world(pond, world)
    return rows_of(pond, world)


def rows_of(pond, world):
    """What tree_rows returns for what is known to be uncrossed."""
    return list(zip(marks_of(pond, world), marks_of(pond, paths_of(pond, world))))


def from_tree(pond, pairs):
    """The world with these tree rows."""
    world = from_code(pond, [pair[0] for pair in pairs])
    if crossing_of(pond, world) is not None:
        raise BadParting()
    if rows_of(pond, world) != [tuple(pair) for pair in pairs]:
        raise BadParting()
    check_peace(pond, world)
    return world


def deed_path(pond, world, x, y):
    """The path that meets the fields of both lots, which are apart."""
    check_world(pond, world)
    check_apart(pond, world, x, y)
    crossed = crossed_by(pond, world, x, y)
    if len(crossed) > 0:
        raise CrossedField(crossed[0])
    return way_between(pond, world, x, y)[1]


def parted_path(pond, world, x, y):
    """The two paths into which the deed parts the path that meets both fields."""
    path = deed_path(pond, world, x, y)
    after = paths_of(pond, joined_world(pond, world, x, y))
    return tuple([part for part in after if part[0] in path])


def branches(pond, world, lot):
    """For each path that meets the field of the lot, the lots that lie behind this path."""
    check_world(pond, world)
    check_lot(pond, lot)
    field = holder(world, lot)
    doors = {
        other: way_between(pond, world, lot, other)[1] for other in pond if other not in field
    }
    return [
        tuple([other for other in doors if doors[other] == path])
        for path in paths_of(pond, world)
        if do_meet(field, path)
    ]
