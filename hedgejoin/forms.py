"""Forms: what is left of a parting when the shore may be turned and flipped."""

from hedgejoin.counts import all_worlds
from hedgejoin.errors import BadSize
from hedgejoin.limits import check_most
from hedgejoin.moves import Likeness, move
from hedgejoin.partings import by_marks, check_parting, marks_of
from hedgejoin.ponds import Pond
from hedgejoin.shore import LETTERS

MOST_FORMED = 5


def moved_codes(pond, parting, flips):
    """In likeness order the key of each likeness, with the code to which it moves the parting."""
    check_parting(pond, parting)
    size = len(pond)
    moves = [Likeness(size, shift=shift) for shift in range(size)]
    if flips:
        moves = moves + [Likeness(size, shift=shift, flipped=True) for shift in range(size)]
    return [(one.key, tuple(marks_of(pond, move(pond, parting, one)))) for one in moves]


def form(pond, parting, *, flips=True):
    """The least code of the images of the parting."""
    return min([code for _, code in moved_codes(pond, parting, flips)])


def form_key(pond, parting, *, flips=True):
    """The key of the first likeness that moves the parting to the one with its form as code."""
    moved = moved_codes(pond, parting, flips)
    least = min([code for _, code in moved])
    return [key for key, code in moved if code == least][0]


def family(pond, parting, *, flips=True):
    """All images of the parting, each once, in code order."""
    codes = sorted({code for _, code in moved_codes(pond, parting, flips)})
    return [by_marks(pond, code) for code in codes]


def likenesses(pond, first, second, *, flips=True):
    """The keys of all likenesses that move the first parting to the second one."""
    moved = moved_codes(pond, first, flips)
    check_parting(pond, second)
    goal = tuple(marks_of(pond, second))
    return [key for key, code in moved if code == goal]


def alike(pond, first, second, *, flips=True):
    """True if a likeness moves the first parting to the second one."""
    return len(likenesses(pond, first, second, flips=flips)) > 0


def all_forms(size, *, fields=None, flips=True):
    """The forms of all uncrossed partings of a pond of this size, or of those with so many fields."""
    if size < 1:
        raise BadSize(size)
    check_most(size, MOST_FORMED)
    pond = Pond(list(LETTERS[:size]))
    return sorted({form(pond, world, flips=flips) for world in all_worlds(pond, fields=fields)})
