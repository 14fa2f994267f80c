"""How many histories lead from one world to another, and which of them has which rank."""

from math import factorial

from hedgejoin.deeds import joined_world
from hedgejoin.errors import BadSize, EndsDiffer
from hedgejoin.limits import check_most, check_range
from hedgejoin.roads import check_road, deeds_within
from hedgejoin.rows import passed, plain_along
from hedgejoin.shore import MOST_LOTS
from hedgejoin.smalls import small_lots

MOST_MIXED = 20
MOST_HISTORIES = 125
MOST_RANKED = 7


def pond_histories(size):
    """The number of histories of a pond without strife, from single lots to one field."""
    check_range(size, MOST_LOTS + 1)
    if size == 0:
        raise BadSize(0)
    many = 1
    for _ in range(size - 2):
        many = many * size
    return many


def count_mixes(lengths):
    """The number of orders in which lists of these lengths can be mixed."""
    total = sum(lengths)
    check_most(total, MOST_MIXED)
    many = factorial(total)
    for length in lengths:
        many = many // factorial(length)
    return many


def count_histories(pond, lower, upper):
    """The number of histories from the lower world to the upper one."""
    check_road(pond, lower, upper)
    return many_histories(pond, lower, upper)


def many_histories(pond, lower, upper):
    """What count_histories returns for worlds of which the first is known to lie within the second."""
    sizes = [len(lots) for lots in small_lots(pond, lower, upper)]
    many = count_mixes([size - 1 for size in sizes])
    for size in sizes:
        many = many * pond_histories(size)
    return many


def first_deeds(pond, lower, upper):
    """Each deed with which a history can begin, and the number of histories that do."""
    check_road(pond, lower, upper)
    return counted_deeds(pond, lower, upper)


def counted_deeds(pond, lower, upper):
    """What first_deeds returns for worlds of which the first is known to lie within the second."""
    return [
        ((x, y), many_histories(pond, joined_world(pond, lower, x, y), upper))
        for x, y in deeds_within(pond, lower, upper)
    ]


def histories(pond, lower, upper):
    """All histories from the lower world to the upper one, sorted."""
    check_road(pond, lower, upper)
    check_most(many_histories(pond, lower, upper), MOST_HISTORIES)
    return all_histories(pond, lower, upper)


def all_histories(pond, lower, upper):
    """What histories returns for worlds that are known to have not too many."""
    if lower == upper:
        return [[]]
    return [
        [(x, y), *row]
        for x, y in deeds_within(pond, lower, upper)
        for row in all_histories(pond, joined_world(pond, lower, x, y), upper)
    ]


def history_worlds(pond, lower, upper, row):
    """The worlds that the row passes. Raise StepRefused, or EndsDiffer if it is no history."""
    worlds = passed(pond, lower, row)
    if worlds[-1] != upper:
        raise EndsDiffer()
    return worlds


def check_ranked(pond, lower, upper):
    """Raise the errors of the worlds, or TooMany if there are more deeds than can be ranked."""
    check_road(pond, lower, upper)
    check_most(len(lower) - len(upper), MOST_RANKED)


def rank_history(pond, lower, upper, row):
    """The index of the history among all histories."""
    check_ranked(pond, lower, upper)
    worlds = history_worlds(pond, lower, upper, row)
    rank = 0
    for world, done in zip(worlds, plain_along(worlds, row)):
        choices = counted_deeds(pond, world, upper)
        place = [deed for deed, _ in choices].index(done)
        rank = rank + sum([many for _, many in choices[:place]])
    return rank


def history_at(pond, lower, upper, rank):
    """The history with this index among all histories."""
    check_ranked(pond, lower, upper)
    check_range(rank, many_histories(pond, lower, upper))
    row = []
    world = lower
    rest = rank
    while world != upper:
        (x, y), rest = deed_at(counted_deeds(pond, world, upper), rest)
        row.append((x, y))
        world = joined_world(pond, world, x, y)
    return row


def deed_at(choices, rank):
    """The deed with which the history of this rank begins, and its rank among those that do."""
    rest = rank
    for deed, many in choices[:-1]:
        if rest < many:
            return (deed, rest)
        rest = rest - many
    return (choices[-1][0], rest)
