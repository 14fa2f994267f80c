"""Deeds: joining two fields of a world into one, and why a deed is refused."""

from hedgejoin.errors import AtStrife, CrossedField, SameField, UnknownLot
from hedgejoin.fields import holder
from hedgejoin.partings import by_marks, chained, check_world, marks_of, parting_of
from hedgejoin.ponds import check_lot
from hedgejoin.shore import crossing_places, place_pairs


def crossed_fields(pond, world, x, y):
    """The fields that the joined field of the two lots would cross, in order."""
    check_world(pond, world)
    check_apart(pond, world, x, y)
    return crossed_by(pond, world, x, y)


def check_apart(pond, world, x, y):
    """Raise UnknownLot, or SameField if the two lots are together."""
    check_lot(pond, x)
    check_lot(pond, y)
    if y in holder(world, x):
        raise SameField((x, y))


def crossed_by(pond, world, x, y):
    """What crossed_fields returns for lots that are known to be apart."""
    joined = [pond.position(lot) for field in world if x in field or y in field for lot in field]
    return [
        field
        for field in world
        if x not in field and y not in field and do_cross(pond, joined, field)
    ]


def do_cross(pond, places, field):
    """True if the row of positions crosses the field."""
    return crossing_places(places, [pond.position(lot) for lot in field]) is not None


def refusal(pond, world, x, y):
    """The cause for which the deed is refused, or None if it stands."""
    check_world(pond, world)
    return cause_of(pond, world, x, y)


def cause_of(pond, world, x, y):
    """What refusal returns for what is known to be a world."""
    for name in (x, y):
        if name not in pond:
            return ("unknown", name)
    one = holder(world, x)
    two = holder(world, y)
    if one == two:
        return ("same", (x, y))
    crossed = crossed_by(pond, world, x, y)
    if len(crossed) > 0:
        return ("crossed", crossed[0])
    # No strife lies in one field of a world, so such a strife has a lot in each field.
    for first, second in pond.strifes:
        if first in one + two and second in one + two:
            return ("strife", (first, second))
    return None


def refuse(cause):
    """Raise the error of the cause."""
    word, thing = cause
    if word == "unknown":
        raise UnknownLot(thing)
    if word == "same":
        raise SameField(thing)
    if word == "crossed":
        raise CrossedField(thing)
    raise AtStrife(thing)


def join(pond, world, x, y):
    """The world after the deed."""
    check_world(pond, world)
    cause = cause_of(pond, world, x, y)
    if cause is not None:
        refuse(cause)
    return joined_world(pond, world, x, y)


def joined_world(pond, world, x, y):
    """The parting in which the fields of the two lots are one."""
    return chained(pond, [*world, (x, y)])


def plain_deed(pond, world, x, y):
    """The pair of the first lots of the fields of the two lots."""
    check_world(pond, world)
    check_apart(pond, world, x, y)
    return plain_of(world, x, y)


def plain_of(world, x, y):
    """What plain_deed returns for lots that are known to be apart."""
    return tuple([field[0] for field in world if x in field or y in field])


def judged_deeds(pond, world):
    """All plain deeds of two fields, sorted, each with its cause, or None if it stands."""
    pairs = [(world[low][0], world[high][0]) for low, high in place_pairs(len(world))]
    return [((x, y), cause_of(pond, world, x, y)) for x, y in pairs]


def deeds(pond, world):
    """The plain deeds that stand, sorted."""
    check_world(pond, world)
    return [deed for deed, cause in judged_deeds(pond, world) if cause is None]


def refused_deeds(pond, world):
    """The other plain deeds of two fields, sorted, each with its cause."""
    check_world(pond, world)
    return [(deed, cause) for deed, cause in judged_deeds(pond, world) if cause is not None]


def pasts(pond, world):
    """All worlds from which one deed leads to this world, in code order."""
    check_world(pond, world)
    found = [split_off(pond, world, run) for field in world for run in runs_of(field)]
    codes = sorted([marks_of(pond, past) for past in found])
    return [by_marks(pond, marks) for marks in codes]


def runs_of(field):
    """All runs of neighboring lots of the field that do not hold its first lot.

    Such a run and the rest of the field do not cross, and two parts of a field
    that do not cross are always such a run and the rest.
    """
    return [field[low:high] for low, high in place_pairs(len(field) + 1) if low > 0]


def split_off(pond, world, run):
    """The parting in which the run, a part of one field, is a field of its own."""
    rests = [[lot for lot in field if lot not in run] for field in world]
    return parting_of(pond, [*rests, run])
