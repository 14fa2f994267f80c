"""Names, and positions around the shore."""

from hedgejoin.errors import BadName

MOST_LOTS = 10
LONGEST_NAME = 8
LETTERS = "abcdefghijklmnopqrstuvwxyz"
DIGITS = "0123456789"


def is_name(text):
    """True if the text is a name."""
    if len(text) < 1 or len(text) > LONGEST_NAME:
        return False
    return text[0] in LETTERS and all([sign in LETTERS or sign in DIGITS for sign in text])


def check_name(text):
    """Raise BadName if the text is no name."""
    if not is_name(text):
        raise BadName(text)


def step(size, at, *, by=1):
    """The position that is `by` places further around."""
    return (at + by) % size


def span(size, first, last):
    """The positions from `first`, going around, up to and including `last`."""
    many = (last - first) % size + 1
    return [step(size, first, by=by) for by in range(many)]


def in_span(size, at, first, last):
    """True if `at` is among the positions from `first`, going around, to `last`."""
    return (at - first) % size <= (last - first) % size


def crossed(one, two):
    """True if the four integers differ and the two pairs lie crosswise."""
    low, high = sorted(one)
    if low in two or high in two:
        return False
    # If a pair holds one integer twice, both integers of `two` are between or none is.
    return (low < two[0] < high) != (low < two[1] < high)


def place_pairs(size):
    """All pairs of different positions, the earlier one first, in pair order."""
    return [(low, high) for low in range(size) for high in range(low + 1, size)]


def place_lists(size):
    """All ascending lists of different positions, the shorter ones first, in order."""
    lists = []
    longest = [[]]
    while len(longest) > 0:
        lists = [*lists, *longest]
        longest = [[*row, at] for row in longest for at in range(size) if at > max(row, default=-1)]
    return lists


def crossing_places(one, two):
    """The first a < b < c < d with a and c in one row of positions and b and d in the other.

    None if there are no such four positions.
    """
    fours = crossings_from(one, two) + crossings_from(two, one)
    return min(fours, default=None)


def crossings_from(one, two):
    """All a < b < c < d with a and c in the first row and b and d in the second."""
    return [
        (a, b, c, d)
        for a in one
        for b in two
        if a < b
        for c in one
        if b < c
        for d in two
        if c < d
    ]
