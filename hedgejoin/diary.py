"""Diaries: what was seen of a world at some moments, and the runs of worlds that fit it."""

from hedgejoin.commons import closing_of
from hedgejoin.counts import all_worlds
from hedgejoin.errors import BadSize, NoRun
from hedgejoin.limits import check_most, check_range
from hedgejoin.partings import check_world, pairs_in
from hedgejoin.ponds import in_pair_order, lot_pairs
from hedgejoin.shore import place_lists
from hedgejoin.wishes import check_granted

MOST_TOLD = 5
MOST_MOMENTS = 8
MOST_SIGHTINGS = 12
MOST_DOUBTED = 6


def overs_of(pond):
    """For each world of the pond the worlds over it, all in code order."""
    worlds = all_worlds(pond)
    pairs = {world: pairs_in(world, lot_pairs(pond)) for world in worlds}
    return {
        low: [high for high in worlds if all([pair in pairs[high] for pair in pairs[low]])]
        for low in worlds
    }


def seen_pairs(sightings, moment, word):
    """The pairs of lots that the sightings with this word name at this moment."""
    return [(x, y) for at, told, x, y in sightings if at == moment and told == word]


class Diary:
    """Sightings of two lots together or apart at some moments, and bounds between the moments."""

    def __init__(self, pond, moments, *, start=None):
        check_most(len(pond), MOST_TOLD)
        if moments < 1:
            raise BadSize(moments)
        check_most(moments, MOST_MOMENTS)
        if start is not None:
            check_world(pond, start)
        self._pond = pond
        self._moments = moments
        self._start = start
        self._sightings = ()
        self._bounds = ((0, None),) * (moments - 1)
        self._overs = overs_of(pond)

    @property
    def pond(self):
        """The pond of the diary."""
        return self._pond

    @property
    def moments(self):
        """The number of moments."""
        return self._moments

    @property
    def start(self):
        """The world that lies within the world of moment 0, or None."""
        return self._start

    @property
    def sightings(self):
        """The sightings, in the order in which they were added."""
        return self._sightings

    @property
    def bounds(self):
        """The least and the greatest number of deeds after each moment but the last."""
        return self._bounds

    def __len__(self):
        return len(self._sightings)

    def __iter__(self):
        return iter(self._sightings)

    def see_together(self, moment, x, y):
        """Add the sighting that the two lots are together at the moment, and return its index."""
        return self._see(moment, "together", x, y)

    def see_apart(self, moment, x, y):
        """Add the sighting that the two lots are apart at the moment, and return its index."""
        return self._see(moment, "apart", x, y)

    def _see(self, moment, word, x, y):
        """Add a sighting and return its index."""
        check_range(moment, self._moments)
        self._pond.pair_of(x, y)
        check_most(len(self._sightings) + 1, MOST_SIGHTINGS)
        self._sightings = (*self._sightings, (moment, word, x, y))
        return len(self._sightings) - 1

    def gap(self, moment, *, least=0, most=None):
        """Set both bounds of the gap after the moment."""
        check_range(moment, self._moments - 1)
        self._bounds = (*self._bounds[:moment], (least, most), *self._bounds[moment + 1:])

    def _allowed(self, moment, sightings):
        """The worlds, in code order, that fit the start and the sightings at this moment."""
        worlds = list(self._overs)
        if moment == 0 and self._start is not None:
            worlds = self._overs[self._start]
        together = seen_pairs(sightings, moment, "together")
        apart = seen_pairs(sightings, moment, "apart")
        return [
            world
            for world in worlds
            if pairs_in(world, together) == together and len(pairs_in(world, apart)) == 0
        ]

    def _nexts(self, moment, world):
        """The worlds over this one that are possible at the next moment, sightings aside."""
        least, most = self._bounds[moment]
        deeds = [(after, len(world) - len(after)) for after in self._overs[world]]
        return [after for after, many in deeds if least <= many and (most is None or many <= most)]

    def _tails(self, sightings):
        """For each moment the worlds with which a run can go on to the last moment.

        Each has the number of ways in which it can; the worlds are in code order.
        """
        last = self._moments - 1
        later = {world: 1 for world in self._allowed(last, sightings)}
        tails = [later]
        for moment in reversed(range(last)):
            counts = {}
            for world in self._allowed(moment, sightings):
                many = sum([later.get(after, 0) for after in self._nexts(moment, world)])
                if many > 0:
                    counts[world] = many
            later = counts
            tails = [later, *tails]
        return tails

    def _levels(self):
        """For each moment the worlds, in code order, that at least one run has then."""
        tails = self._tails(self._sightings)
        levels = [list(tails[0])]
        for moment, tail in enumerate(tails[1:]):
            nexts = [after for world in levels[-1] for after in self._nexts(moment, world)]
            levels.append([world for world in tail if world in nexts])
        return levels

    def _fits_with(self, sightings):
        """True if there is a run with these sightings instead of those of the diary."""
        return len(self._tails(sightings)[0]) > 0

    def is_run(self, worlds):
        """True if the worlds are a run."""
        if len(worlds) != self._moments:
            return False
        for moment, world in enumerate(worlds):
            if world not in self._allowed(moment, self._sightings):
                return False
            if moment > 0 and world not in self._nexts(moment - 1, worlds[moment - 1]):
                return False
        return True

    def fits(self):
        """True if there is a run."""
        return self._fits_with(self._sightings)

    def count_runs(self):
        """The number of runs."""
        firsts = self._tails(self._sightings)[0]
        return sum([firsts[world] for world in firsts])

    def run(self):
        """The first run."""
        levels = self._levels()
        if len(levels[0]) == 0:
            raise NoRun()
        worlds = [levels[0][0]]
        for moment, level in enumerate(levels[1:]):
            nexts = self._nexts(moment, worlds[-1])
            worlds.append([world for world in level if world in nexts][0])
        return worlds

    def worlds_at(self, moment):
        """The worlds, in code order, that at least one run has at this moment."""
        check_range(moment, self._moments)
        return self._levels()[moment]

    def _pairs_at(self, moment):
        """For each world that a run has at this moment the pairs that are together in it."""
        worlds = self.worlds_at(moment)
        if len(worlds) == 0:
            raise NoRun()
        return [pairs_in(world, lot_pairs(self._pond)) for world in worlds]

    def must(self, moment):
        """The pairs of lots that are together at this moment in all runs."""
        rows = self._pairs_at(moment)
        return [pair for pair in lot_pairs(self._pond) if all([pair in row for row in rows])]

    def may(self, moment):
        """The pairs of lots that are together at this moment in at least one run."""
        rows = self._pairs_at(moment)
        return [pair for pair in lot_pairs(self._pond) if any([pair in row for row in rows])]

    def first_unfit(self):
        """None, or the index of the first sighting with which there is no run any more, or -1."""
        for many in range(len(self._sightings) + 1):
            if not self._fits_with(self._sightings[:many]):
                return many - 1
        return None

    def is_wrong_set(self, indexes):
        """True if there is a run without the sightings with these indexes."""
        for index in indexes:
            check_range(index, len(self._sightings))
        rest = [told for at, told in enumerate(self._sightings) if at not in indexes]
        return self._fits_with(rest)

    def least_wrong(self):
        """The first of the shortest lists of sightings without which there is a run."""
        check_most(len(self._sightings), MOST_DOUBTED)
        if not self._fits_with(()):
            raise NoRun()
        lists = place_lists(len(self._sightings))
        return [indexes for indexes in lists if self.is_wrong_set(indexes)][0]

    def twin(self):
        """A new diary that is alike."""
        other = Diary(self._pond, self._moments, start=self._start)
        other._sightings = self._sightings
        other._bounds = self._bounds
        return other


def least_run(pond, start, moments, sightings):
    """The smallest worlds, one for each moment, that fit the sightings without bounds on deeds."""
    check_world(pond, start)
    worlds = []
    world = start
    for moment in range(moments):
        world = closing_of(pond, [*world, *seen_pairs(sightings, moment, "together")])
        pairs = [pond.pair_of(x, y) for x, y in seen_pairs(sightings, moment, "apart")]
        check_granted(pond, in_pair_order(pond, pairs), world)
        worlds.append(world)
    return worlds
