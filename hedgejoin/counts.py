"""Numbers and ranks of uncrossed partings.

A lot that follows others in the shore order either begins a new field or joins
one that is still reachable. If it joins one, all fields with greater marks are
closed off, as a later lot in them would make them cross it. So the marks of the
reachable fields ascend, and only their number matters for what can follow.
"""

from math import comb, factorial

from hedgejoin.limits import check_most, check_range
from hedgejoin.partings import by_marks, check_uncrossed, marks_of, strife_of
from hedgejoin.shore import MOST_LOTS

MOST_LISTED = 7


def count_worlds(size, *, fields=None):
    """The number of uncrossed partings of a pond, or of those with so many fields."""
    check_range(size, MOST_LOTS + 1)
    if fields is None:
        return sum([count_with(size, many) for many in range(size + 1)])
    return count_with(size, fields)


def count_with(size, fields):
    """The number of uncrossed partings with exactly this number of fields."""
    if fields == 0:
        return 1 if size == 0 else 0
    if fields < 0 or fields > size:
        return 0
    return comb(size, fields) * comb(size, fields - 1) // size


def count_by_sizes(sizes):
    """The number of uncrossed partings whose fields have these numbers of lots."""
    total = sum(sizes)
    check_most(total, MOST_LOTS)
    many = factorial(total) // factorial(total + 1 - len(sizes))
    for size in range(1, total + 1):
        many = many // factorial(len([other for other in sizes if other == size]))
    return many


def rank_world(pond, parting, *, alike=False):
    """The index of the parting in the code order of all uncrossed ones, or of those alike."""
    check_uncrossed(pond, parting)
    return rank_of(marks_of(pond, parting), len(parting) if alike else None)


def rank_of(marks, fields):
    """The rank of the uncrossed parting with these marks, among those with so many fields."""
    known = {}
    rank = 0
    for at, mark in enumerate(marks):
        for smaller in next_marks(marks[:at]):
            if smaller < mark:
                rank = rank + count_rests([*marks[:at], smaller], len(marks), fields, known)
    return rank


def next_marks(marks):
    """The marks, ascending, with which the next lot crosses no field. The last one is new."""
    reachable = []
    for mark in marks:
        reachable = [*[other for other in reachable if other < mark], mark]
    return [*reachable, max(marks, default=-1) + 1]


def count_rests(marks, size, fields, known):
    """The number of uncrossed partings of `size` lots whose marks begin with these."""
    fresh = None if fields is None else fields - max(marks) - 1
    return count_ways(len(next_marks(marks)) - 1, size - len(marks), fresh, known)


def count_ways(reachable, rest, fresh, known):
    """The number of ways to go on with `rest` lots, with exactly `fresh` new fields, if given."""
    if rest == 0:
        return 1 if fresh is None or fresh == 0 else 0
    key = (reachable, rest, fresh)
    if key not in known:
        fewer = None if fresh is None else fresh - 1
        ways = [count_ways(place + 1, rest - 1, fresh, known) for place in range(reachable)]
        known[key] = sum(ways) + count_ways(reachable + 1, rest - 1, fewer, known)
    return known[key]


def world_at(pond, rank, *, fields=None):
    """The uncrossed parting with this rank, or the one among those with so many fields."""
    check_range(rank, count_worlds(len(pond), fields=fields))
    return by_marks(pond, marks_at(len(pond), rank, fields))


def marks_at(size, rank, fields):
    """The marks of the uncrossed parting with this rank, among those with so many fields."""
    known = {}
    marks = []
    rest = rank
    for _ in range(size):
        for mark in next_marks(marks):
            many = count_rests([*marks, mark], size, fields, known)
            if rest < many:
                marks = [*marks, mark]
                break
            rest = rest - many
    return marks


def all_worlds(pond, *, fields=None):
    """All worlds of the pond, or those with so many fields, in code order."""
    check_most(len(pond), MOST_LISTED)
    worlds = [by_marks(pond, marks) for marks in all_marks(len(pond))]
    return [
        world
        for world in worlds
        if strife_of(pond, world) is None and (fields is None or len(world) == fields)
    ]


def all_marks(size):
    """The marks of all uncrossed partings, in code order."""
    rows = [[]]
    for _ in range(size):
        rows = [[*marks, mark] for marks in rows for mark in next_marks(marks)]
    return rows


def next_world(pond, parting):
    """The uncrossed parting that follows in code order, or None after the last one."""
    rank = rank_world(pond, parting) + 1
    if rank == count_worlds(len(pond)):
        return None
    return world_at(pond, rank)
