"""Ponds: named lots around a shore, and the strifes between them."""

from hedgejoin.errors import BadSize, RepeatedName, SameLot, UnknownLot
from hedgejoin.shore import MOST_LOTS, check_name, place_pairs, step


class Pond:
    """Lots in shore order and their strifes. A pond never changes."""

    def __init__(self, names, *, strifes=()):
        check_names(names)
        self._names = tuple(names)
        self._places = {name: at for at, name in enumerate(names)}
        self._strifes = in_pair_order(self, [self.pair_of(x, y) for x, y in strifes])

    @property
    def names(self):
        """The names in shore order."""
        return self._names

    @property
    def strifes(self):
        """The strifes in pair order."""
        return self._strifes

    def __len__(self):
        return len(self._names)

    def __iter__(self):
        return iter(self._names)

    def position(self, name):
        """The position of the lot."""
        if name not in self._places:
            raise UnknownLot(name)
        return self._places[name]

    def follows(self, name, *, by=1):
        """The lot that is `by` places further around."""
        return self._names[step(len(self._names), self.position(name), by=by)]

    def pair_of(self, x, y):
        """The pair of two different lots, the earlier one first."""
        places = sorted([self.position(x), self.position(y)])
        if x == y:
            raise SameLot(x)
        return (self._names[places[0]], self._names[places[1]])

    def at_strife(self, x, y):
        """True if the two lots are at strife."""
        if self.position(x) == self.position(y):
            return False
        return self.pair_of(x, y) in self._strifes

    def bare(self):
        """A new pond with the same names and without strifes."""
        return Pond(self._names)

    def with_strife(self, x, y):
        """A new pond that has this strife and is otherwise alike."""
        pair = self.pair_of(x, y)
        return Pond(self._names, strifes=[*self._strifes, pair])

    def without_strife(self, x, y):
        """A new pond that has not this strife and is otherwise alike."""
        pair = self.pair_of(x, y)
        return Pond(self._names, strifes=[strife for strife in self._strifes if strife != pair])

    def same_as(self, other):
        """True if both ponds have the same shore order and the same strifes."""
        return self._names == other.names and self._strifes == other.strifes


def check_names(names):
    """Raise the errors of the names of a new pond."""
    if len(names) < 1 or len(names) > MOST_LOTS:
        raise BadSize(len(names))
    for at, name in enumerate(names):
        check_name(name)
        if name in names[:at]:
            raise RepeatedName(name)


def check_lot(pond, name):
    """Raise UnknownLot if the pond has no such lot."""
    if name not in pond:
        raise UnknownLot(name)


def check_once(pond, lots):
    """Raise UnknownLot for a text that is no lot, or RepeatedName for a lot met before."""
    for at, lot in enumerate(lots):
        check_lot(pond, lot)
        if lot in lots[:at]:
            raise RepeatedName(lot)


def lot_pairs(pond):
    """All pairs of different lots, in pair order."""
    names = pond.names
    return [(names[low], names[high]) for low, high in place_pairs(len(names))]


def in_pair_order(pond, pairs):
    """The tuple of the pairs of lots in pair order, each once."""
    return tuple([pair for pair in lot_pairs(pond) if pair in pairs])


def sub_pond(pond, lots):
    """The pond of the lots as they are passed, with the strifes among them."""
    check_once(pond, lots)
    # An empty row passes the check above; a pond without names is refused as BadSize(0).
    return Pond(lots, strifes=[(x, y) for x, y in pond.strifes if x in lots and y in lots])
