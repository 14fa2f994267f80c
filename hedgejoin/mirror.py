"""The mirror of a world: gates between the lots, and the paths that the fields leave them."""

from hedgejoin.fields import holder, neighbor
from hedgejoin.partings import chained, check_peace, check_uncrossed, check_world
from hedgejoin.ponds import check_lot, lot_pairs
from hedgejoin.shore import span, step


def mirror(pond, world):
    """The paths of the world, sorted by their first gates."""
    check_world(pond, world)
    return paths_of(pond, world)


def paths_of(pond, world):
    """What mirror returns for what is known to be uncrossed."""
    return chained(pond, [(gate, gate_after(pond, world, gate)) for gate in pond])


def gate_after(pond, world, gate):
    """What next_gate returns for what is known to be a world."""
    lot = pond.follows(gate)
    return neighbor(holder(world, lot), lot, True)


def unmirror(pond, paths):
    """The world whose mirror is `paths`."""
    check_uncrossed(pond, paths)
    world = chained(pond, [(lot, lot_before(pond, paths, lot)) for lot in pond])
    check_peace(pond, world)
    return world


def lot_before(pond, paths, lot):
    """The lot that comes before the lot in its field, going around: gate_after undone."""
    gate = pond.follows(lot, by=-1)
    return neighbor(holder(paths, gate), gate, False)


def is_mirror(pond, world, paths):
    """True if `paths` equals the mirror of the world."""
    return paths == mirror(pond, world)


def path_of(pond, world, gate):
    """The path that holds the gate."""
    check_world(pond, world)
    check_lot(pond, gate)
    return holder(paths_of(pond, world), gate)


def gates_paper(pond, world, first, second):
    """The first pair of lots that shows two gates to be on two paths, or None."""
    check_world(pond, world)
    low = pond.position(first)
    high = pond.position(second)
    size = len(pond)
    between = [pond.names[at] for at in span(size, step(size, low), high)]
    for x, y in lot_pairs(pond):
        if y in holder(world, x) and (x in between) != (y in between):
            return (x, y)
    return None


def next_gate(pond, world, gate):
    """The first gate of the same path that is met by going around from the gate."""
    check_world(pond, world)
    return gate_after(pond, world, gate)


def fields_at(pond, world, gate):
    """The fields that the path of the gate meets, in the order of the world."""
    path = path_of(pond, world, gate)
    return [field for field in world if any([lot in path for lot in field])]


def paths_at(pond, world, lot):
    """The paths that meet the field of the lot, in the order of the mirror."""
    check_world(pond, world)
    check_lot(pond, lot)
    field = holder(world, lot)
    return [path for path in paths_of(pond, world) if any([gate in field for gate in path])]
