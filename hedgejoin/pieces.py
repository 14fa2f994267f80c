"""Pieces: the ponds into which a path or a field cuts a pond, and the worlds in them."""

from hedgejoin.counts import count_worlds
from hedgejoin.errors import BadSize
from hedgejoin.fields import holder, need_within
from hedgejoin.partings import by_marks, chained, check_peace, check_world, marks_of
from hedgejoin.ponds import check_lot, check_once, sub_pond
from hedgejoin.shore import span, step
from hedgejoin.smalls import check_split


def arcs(pond, gates):
    """The arcs into which the gates cut the shore."""
    if len(gates) == 0:
        raise BadSize(0)
    check_once(pond, gates)
    size = len(pond)
    places = sorted([pond.position(gate) for gate in gates])
    spans = [span(size, step(size, low), high) for low, high in zip(places, places[1:] + places[:1])]
    return [tuple([pond.names[at] for at in places_in]) for places_in in spans]


def gaps(pond, lots):
    """The gaps that are not empty between the lots."""
    # A gap is an arc without the lot at which the arc ends.
    return [arc[:-1] for arc in arcs(pond, lots) if len(arc) > 1]


def piece_worlds(pond, parts, world):
    """For each part of the shore the world of its piece in which the same lots are together."""
    pieces = [sub_pond(pond, lots) for lots in parts]
    return [by_marks(piece, marks_of(piece, world)) for piece in pieces]


def check_pieces(pond, parts, worlds):
    """Raise BadSplit if these are not one world for the piece of each part of the shore."""
    check_split([sub_pond(pond, lots) for lots in parts], worlds)


def glued(pond, worlds):
    """The parting of the pond that has the fields of all the worlds."""
    return chained(pond, [field for world in worlds for field in world])


def cut_at_path(pond, world, gates):
    """The worlds of the arcs' pieces into which the path of the gates cuts the world."""
    check_world(pond, world)
    parts = arcs(pond, gates)
    need_within(pond, world, chained(pond, parts))
    return piece_worlds(pond, parts, world)


def glue_at_path(pond, gates, worlds):
    """The world that has these worlds in the pieces of the arcs."""
    check_pieces(pond, arcs(pond, gates), worlds)
    return glued(pond, worlds)


def cut_at_field(pond, world, lot):
    """The field of the lot, and the worlds of the pieces of the gaps that it leaves."""
    check_world(pond, world)
    check_lot(pond, lot)
    field = holder(world, lot)
    return (field, piece_worlds(pond, gaps(pond, field), world))


def glue_at_field(pond, lots, worlds):
    """The world that has the lots as one field and these worlds in the pieces of the gaps."""
    parts = gaps(pond, lots)
    check_peace(pond, chained(pond, [lots]))
    check_pieces(pond, parts, worlds)
    return glued(pond, [[lots], *worlds])


def count_pieces(parts):
    """The number of uncrossed partings of the parts of the shore together."""
    many = 1
    for lots in parts:
        many = many * count_worlds(len(lots))
    return many


def count_at_path(pond, gates):
    """The number of uncrossed partings in which the gates are on one path."""
    return count_pieces(arcs(pond, gates))


def count_at_field(pond, lots):
    """The number of uncrossed partings in which the lots are one field."""
    return count_pieces(gaps(pond, lots))
