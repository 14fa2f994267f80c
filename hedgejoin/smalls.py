"""Small ponds: the choices that are free between a world and another one over it."""

from hedgejoin.deeds import join
from hedgejoin.errors import BadSplit
from hedgejoin.fields import holder, need_within, neighbor
from hedgejoin.partings import by_marks, chained, check_world, is_world, marks_of
from hedgejoin.ponds import Pond
from hedgejoin.roads import check_road


def inner_paths(pond, lower, upper):
    """The inner paths between the two worlds, sorted by their first gates."""
    check_road(pond, lower, upper)
    return inner_paths_of(pond, lower, upper)


def inner_paths_of(pond, lower, upper):
    """What inner_paths returns for worlds of which the first is known to lie within the second."""
    return chained(pond, [(gate, inner_gate_after(lower, upper, gate)) for gate in pond])


def inner_gate_after(lower, upper, gate):
    """The next gate of the same inner path, going around inside the field of `upper`."""
    lot = neighbor(holder(upper, gate), gate, False)
    return neighbor(holder(lower, lot), lot, True)


def small_ponds(pond, lower, upper):
    """The lots of each small pond, in the order of the inner paths."""
    check_road(pond, lower, upper)
    return small_lots(pond, lower, upper)


def small_lots(pond, lower, upper):
    """What small_ponds returns for worlds of which the first is known to lie within the second."""
    return [
        tuple([field[0] for field in lower if any([lot in path for lot in field])])
        for path in inner_paths_of(pond, lower, upper)
    ]


def split_world(pond, lower, upper, world):
    """The small worlds of a world between the two."""
    check_between(pond, lower, upper, world)
    return [small_world(lots, world) for lots in small_lots(pond, lower, upper)]


def check_between(pond, lower, upper, world):
    """Raise the errors of three worlds of which the last must be between the first two."""
    check_road(pond, lower, upper)
    check_world(pond, world)
    need_within(pond, lower, world)
    need_within(pond, world, upper)


def small_world(lots, world):
    """The parting of the small pond of the lots in which the same lots are together."""
    small = Pond(lots)
    return by_marks(small, marks_of(small, world))


def unite_world(pond, lower, upper, worlds):
    """The world between the two that has these small worlds."""
    check_road(pond, lower, upper)
    check_split([Pond(lots) for lots in small_lots(pond, lower, upper)], worlds)
    return united_world(pond, lower, worlds)


def check_split(ponds, worlds):
    """Raise BadSplit if these are not one world for each of the ponds."""
    check_number(ponds, worlds)
    for place, small in enumerate(ponds):
        if not is_world(small, worlds[place]):
            raise BadSplit(place)


def check_number(ponds, given):
    """Raise BadSplit if there is not one item for each of the ponds."""
    if len(given) != len(ponds):
        raise BadSplit(min(len(given), len(ponds)))


def united_world(pond, lower, worlds):
    """The world over `lower` in which the fields of the small worlds join its fields."""
    return chained(pond, [*lower, *[field for world in worlds for field in world]])


def deed_small(pond, lower, upper, world, x, y):
    """The index of the small pond to which the deed belongs."""
    check_between(pond, lower, upper, world)
    need_within(pond, join(pond, world, x, y), upper)
    return small_index(small_lots(pond, lower, upper), world, x, y)


def small_index(smalls, world, x, y):
    """The index of the only small pond that has lots in both of the fields that are joined."""
    one = holder(world, x)
    two = holder(world, y)
    return [
        index
        for index, lots in enumerate(smalls)
        if any([lot in one for lot in lots]) and any([lot in two for lot in lots])
    ][0]


def small_deed(pond, lower, upper, world, x, y):
    """The plain deed in the small pond to which the deed belongs."""
    index = deed_small(pond, lower, upper, world, x, y)
    return deed_in(small_lots(pond, lower, upper)[index], world, x, y)


def deed_in(lots, world, x, y):
    """The first lots of the small pond in the field of x and in that of y, earlier first."""
    joined = [*holder(world, x), *holder(world, y)]
    firsts = [field[0] for field in small_world(lots, world) if field[0] in joined]
    return tuple(firsts)
