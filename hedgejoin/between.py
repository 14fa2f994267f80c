"""The worlds between two worlds, and the deeds after which a goal cannot come any more."""

from hedgejoin.counts import all_worlds, count_worlds, rank_world, world_at
from hedgejoin.deeds import join, joined_world, judged_deeds
from hedgejoin.fields import parted_pair
from hedgejoin.limits import check_most, check_range
from hedgejoin.partings import check_world
from hedgejoin.ponds import Pond
from hedgejoin.roads import check_road, is_parted_paper
from hedgejoin.smalls import check_between, small_lots, small_world, united_world

MOST_BETWEEN = 429


def count_between(pond, lower, upper):
    """The number of worlds between the two."""
    check_road(pond, lower, upper)
    return many_between(pond, lower, upper)


def many_between(pond, lower, upper):
    """What count_between returns for worlds of which the first is known to lie within the second."""
    many = 1
    for lots in small_lots(pond, lower, upper):
        many = many * count_worlds(len(lots))
    return many


def between(pond, lower, upper):
    """The worlds between the two, by rank."""
    check_road(pond, lower, upper)
    check_most(many_between(pond, lower, upper), MOST_BETWEEN)
    return worlds_between(pond, lower, upper)


def worlds_between(pond, lower, upper):
    """What between returns for worlds that are known to have not too many between them."""
    choices = [[]]
    for lots in small_lots(pond, lower, upper):
        worlds = all_worlds(Pond(lots))
        choices = [[*chosen, world] for chosen in choices for world in worlds]
    return [united_world(pond, lower, chosen) for chosen in choices]


def is_between(pond, lower, upper, world):
    """True if the world is between the two."""
    check_road(pond, lower, upper)
    check_world(pond, world)
    low = parted_pair(pond, lower, world)
    high = parted_pair(pond, world, upper)
    return low is None and high is None


def rank_between(pond, lower, upper, world):
    """The rank of the world among those between the two."""
    check_between(pond, lower, upper, world)
    rank = 0
    for lots in small_lots(pond, lower, upper):
        place = rank_world(Pond(lots), small_world(lots, world))
        rank = rank * count_worlds(len(lots)) + place
    return rank


def world_between(pond, lower, upper, rank):
    """The world between the two that has this rank."""
    check_road(pond, lower, upper)
    check_range(rank, many_between(pond, lower, upper))
    worlds = []
    rest = rank
    for lots in reversed(small_lots(pond, lower, upper)):
        rest, place = divmod(rest, count_worlds(len(lots)))
        worlds.append(world_at(Pond(lots), place))
    return united_world(pond, lower, worlds)


def level_counts(pond, lower, upper):
    """For each number of deeds from the lower world, the number of worlds so far away."""
    check_road(pond, lower, upper)
    counts = [1]
    for lots in small_lots(pond, lower, upper):
        size = len(lots)
        own = [count_worlds(size, fields=size - level) for level in range(size)]
        counts = added_levels(counts, own)
    return counts


def added_levels(counts, own):
    """The level counts of two ponds together: a level of both is a sum of a level of each."""
    levels = [0] * (len(counts) + len(own) - 1)
    for low, one in enumerate(counts):
        for high, two in enumerate(own):
            levels[low + high] = levels[low + high] + one * two
    return levels


def fatal_paper(pond, world, goal, x, y):
    """The first pair of lots that shows the deed to be fatal, or None if it is safe."""
    check_road(pond, world, goal)
    return parted_pair(pond, join(pond, world, x, y), goal)


def is_fatal_paper(pond, world, goal, x, y, pair):
    """True if the pair shows the deed to be fatal."""
    check_road(pond, world, goal)
    after = join(pond, world, x, y)
    return all([lot in pond for lot in pair]) and is_parted_paper(after, goal, pair)


def fatal_deeds(pond, world, goal):
    """The fatal plain deeds, sorted, each with its paper."""
    check_road(pond, world, goal)
    found = []
    for (x, y), cause in judged_deeds(pond, world):
        paper = parted_pair(pond, joined_world(pond, world, x, y), goal)
        if cause is None and paper is not None:
            found.append(((x, y), paper))
    return found
