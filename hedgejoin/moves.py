"""Likenesses, which turn and flip the shore, and what they do to partings and ponds."""

from hedgejoin.errors import BadSize, OutOfRange
from hedgejoin.partings import by_marks, check_parting, marks_of, parting_of
from hedgejoin.ponds import Pond, sub_pond
from hedgejoin.shore import MOST_LOTS


class Likeness:
    """A move of all positions around the shore. A likeness never changes."""

    def __init__(self, size, *, shift=0, flipped=False):
        if size < 1 or size > MOST_LOTS:
            raise BadSize(size)
        self.size = size
        self._shift = shift % size
        self._flipped = flipped

    @property
    def shift(self):
        """The position to which position 0 moves."""
        return self._shift

    @property
    def flipped(self):
        """True if the positions are moved the other way around."""
        return self._flipped

    @property
    def key(self):
        """The pair of shift and flipped."""
        return (self._shift, self._flipped)

    def __call__(self, at):
        if at < 0 or at >= self.size:
            raise OutOfRange(at, self.size)
        if self._flipped:
            return (self._shift - at) % self.size
        return (self._shift + at) % self.size

    def __mul__(self, other):
        if self.size != other.size:
            raise BadSize(other.size)
        if self._flipped:
            return Likeness(self.size, shift=self._shift - other.shift, flipped=not other.flipped)
        return Likeness(self.size, shift=self._shift + other.shift, flipped=other.flipped)

    def __invert__(self):
        if self._flipped:
            return Likeness(self.size, shift=self._shift, flipped=True)
        return Likeness(self.size, shift=-self._shift)


def likeness_of(key, *, size):
    """The likeness of this size with this key."""
    return Likeness(size, shift=key[0], flipped=key[1])


def check_size(pond, likeness):
    """Raise BadSize if the likeness is not of the size of the pond."""
    if likeness.size != len(pond):
        raise BadSize(likeness.size)


def move(pond, parting, likeness):
    """The parting of the same pond in which the likeness has moved each lot."""
    check_parting(pond, parting)
    check_size(pond, likeness)
    marks = marks_of(pond, parting)
    moved = list(marks)
    for at, mark in enumerate(marks):
        moved[likeness(at)] = mark
    return by_marks(pond, moved)


def move_pond(pond, likeness):
    """A new pond with the same names, in which the likeness has moved the strifes."""
    check_size(pond, likeness)
    moved = {lot: pond.names[likeness(at)] for at, lot in enumerate(pond)}
    return Pond(pond.names, strifes=[(moved[x], moved[y]) for x, y in pond.strifes])


def restart(pond, parting, lot):
    """A new pond whose shore order begins at the lot, and the same parting in it."""
    check_parting(pond, parting)
    at = pond.position(lot)
    moved = sub_pond(pond, pond.names[at:] + pond.names[:at])
    return (moved, parting_of(moved, parting))


def same_place(pond, parting, other_pond, other_parting):
    """True if both are alike after a restart of the first one at some lot."""
    check_parting(pond, parting)
    check_parting(other_pond, other_parting)
    begin = other_pond.names[0]
    if begin not in pond:
        return False
    moved, moved_parting = restart(pond, parting, begin)
    return moved.same_as(other_pond) and moved_parting == other_parting
