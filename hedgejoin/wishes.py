"""Wishes: lots that must be together and pairs that must be apart, and how few lots cure a parting."""

from hedgejoin.commons import closing_of, future_of, is_why, reasons_for
from hedgejoin.counts import all_worlds
from hedgejoin.ends import ends
from hedgejoin.errors import OtherPond, Ungranted
from hedgejoin.fields import parted_pair, take_out
from hedgejoin.limits import check_most
from hedgejoin.partings import chained, check_parting, check_world, is_world, pairs_in, strife_of
from hedgejoin.ponds import Pond, in_pair_order, lot_pairs
from hedgejoin.roads import first_history
from hedgejoin.shore import place_lists

MOST_TRIED = 7
MOST_GRANTING = 6
MOST_GREATEST = 5
MOST_CURED = 7


def cause_against(pond, apart, parting):
    """The refusal cause of a wish whose least parting is this one, or None if it is granted."""
    kept = pairs_in(parting, apart)
    if len(kept) > 0:
        return ("apart", kept[0])
    strife = strife_of(pond, parting)
    return None if strife is None else ("strife", strife)


def check_granted(pond, apart, parting):
    """Raise Ungranted if a pair kept apart or a strife is together in the parting."""
    cause = cause_against(pond, apart, parting)
    if cause is not None:
        raise Ungranted(cause)


class Wish:
    """Groups of lots that must be together and pairs kept apart. A wish never changes."""

    def __init__(self, pond, *, together=(), apart=()):
        self._pond = pond
        self._groups = chained(pond, together)
        self._apart = in_pair_order(pond, [pond.pair_of(x, y) for x, y in apart])

    @property
    def pond(self):
        """The pond that was passed."""
        return self._pond

    @property
    def groups(self):
        """The parting in which the lots are together that must be together."""
        return self._groups

    @property
    def apart(self):
        """The pairs kept apart, in pair order."""
        return self._apart

    def __call__(self, world):
        return self.fault(world) is None

    def __add__(self, other):
        if not self._pond.same_as(other.pond):
            raise OtherPond()
        together = [*self._groups, *other.groups]
        return Wish(self._pond, together=together, apart=[*self._apart, *other.apart])

    def fault(self, world):
        """None, or the first pair that the world does not treat as the wish asks."""
        check_world(self._pond, world)
        pair = parted_pair(self._pond, self._groups, world)
        if pair is not None:
            return ("together", pair)
        kept = pairs_in(world, self._apart)
        return ("apart", kept[0]) if len(kept) > 0 else None

    def least(self):
        """The smallest world that grants the wish."""
        least = self._closing()
        check_granted(self._pond, self._apart, least)
        return least

    def _closing(self):
        """The least parting of the wish."""
        return closing_of(self._pond, self._groups)

    def answer(self):
        """The least parting as a world, or the refusal cause with reasons for it."""
        least = self._closing()
        cause = cause_against(self._pond, self._apart, least)
        if cause is None:
            return ("world", least)
        return (*cause, tuple(reasons_for(self._pond, [self._groups], cause[1])))

    def is_answer(self, reply):
        """True if the reply is a world that grants the wish, or shows that none does."""
        if reply[0] == "world":
            return len(reply) == 2 and self._is_granting(reply[1])
        pairs = self._apart if reply[0] == "apart" else self._pond.strifes
        if reply[0] not in ("apart", "strife") or len(reply) != 3:
            return False
        _, (x, y), reasons = reply
        known = (x, y) in pairs or (y, x) in pairs
        return known and is_why(self._pond, [self._groups], x, y, reasons)

    def _is_granting(self, world):
        """True if this is a world, and it grants the wish."""
        return is_world(self._pond, world) and self.fault(world) is None

    def must(self):
        """The pairs of lots that are together in all worlds that grant the wish."""
        return pairs_in(self.least(), lot_pairs(self._pond))

    def may(self):
        """The pairs of lots that are together in a world that grants the wish."""
        check_most(len(self._pond), MOST_TRIED)
        least = self.least()
        return [pair for pair in lot_pairs(self._pond) if self._could_be(least, pair)]

    def _could_be(self, least, pair):
        """True if the two lots can be together as well, the wish granted."""
        closing = closing_of(self._pond, [*least, pair])
        return cause_against(self._pond, self._apart, closing) is None

    def granting(self):
        """All worlds that grant the wish, in code order."""
        check_most(len(self._pond), MOST_GRANTING)
        return [world for world in all_worlds(self._pond) if self.fault(world) is None]

    def greatest(self):
        """The worlds that grant the wish and lie within no other such world, in code order."""
        check_most(len(self._pond), MOST_GREATEST)
        strifes = [*self._pond.strifes, *self._apart]
        return ends(Pond(self._pond.names, strifes=strifes), self.least())

    def lifts(self):
        """The strifes that must be lifted for the wish to be granted, in pair order."""
        least = self._closing()
        check_granted(self._pond.bare(), self._apart, least)
        return pairs_in(least, self._pond.strifes)

    def history(self, start):
        """The first history from the start to the smallest world over it that grants the wish."""
        check_world(self._pond, start)
        goal = future_of(self._pond, [start, self._groups])
        check_granted(self._pond, self._apart, goal)
        return first_history(self._pond, start, goal)


def is_cure(pond, parting, lots):
    """True if the parting is a world when these lots are taken out of it."""
    return is_world(pond, take_out(pond, parting, lots))


def least_cure(pond, parting):
    """The first of the shortest lists of lots that cure the parting."""
    check_most(len(pond), MOST_CURED)
    check_parting(pond, parting)
    lists = [[pond.names[at] for at in row] for row in place_lists(len(pond))]
    return [lots for lots in lists if is_cure(pond, parting, lots)][0]
