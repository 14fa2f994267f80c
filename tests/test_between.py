"""between.py: points 28, 31, 32 and 33."""

import itertools
import unittest

from hedgejoin.between import (
    between, count_between, fatal_deeds, fatal_paper, is_between, is_fatal_paper, level_counts,
    rank_between, world_between,
)
from hedgejoin.errors import (
    AtStrife, CrossedField, NotWithin, OutOfRange, SameField, TooMany, UnknownLot,
)
from hedgejoin.ponds import Pond
from tests.helpers import (
    ALONE, HIGH, HUGE, LOW, ONLY, SINGLES, SIX, TEN, TEN_SINGLES, TEN_WORLD, WHOLE, WITH_STRIFES,
    PromiseCase, all_roads, all_worlds, code_of, deeds_from, is_together, lies_within, one_field,
    pairs_in_order, passed_by, rows_between, small_by_words, small_ponds, smalls_by_words,
    uncrossed_partings, worlds_between,
)

FIVE = Pond(["a", "b", "c", "d", "e"], strifes=[("a", "e")])
LOWER = (("a",), ("b", "d"), ("c",), ("e",))
UPPER = (("a", "b", "c", "d"), ("e",))
# By rank: the first small pond, a b, counts more than the second one, b c.
WORLDS = [
    UPPER,
    (("a", "b", "d"), ("c",), ("e",)),
    (("a",), ("b", "c", "d"), ("e",)),
    LOWER,
]
ASIDE = (("f",), ("a",), ("e", "b"), ("d",), ("c",))


def by_rank(pond, lower, upper):
    """Point 32 as it stands: each world between, with its rank, sorted by it."""
    found = []
    for world in worlds_between(pond, lower, upper):
        rank = 0
        for lots in smalls_by_words(pond, lower, upper):
            small = Pond(lots)
            codes = sorted([code_of(small, one) for one in uncrossed_partings(small)])
            own = codes.index(code_of(small, small_by_words(lots, world)))
            rank = rank * len(codes) + own
        found.append((rank, world))
    return sorted(found)


class TestCounts(PromiseCase):
    def test_count_between(self):
        self.gives(4, count_between, FIVE, LOWER, UPPER)
        self.gives(4, count_between, SIX, LOW, HIGH)
        self.gives(25, count_between, pond=SIX, lower=SINGLES, upper=HIGH)
        self.gives(1, count_between, SIX, LOW, LOW)
        self.gives(1, count_between, ALONE, ONLY, ONLY)
        self.gives(16796, count_between, TEN, TEN_SINGLES, WHOLE)
        self.gives(100, count_between, TEN, TEN_WORLD, WHOLE)
        self.gives(1430, count_between, TEN, TEN_SINGLES, one_field(8))
        self.refuses_roads(count_between)

    def test_level_counts(self):
        self.gives([1, 2, 1], level_counts, FIVE, LOWER, UPPER)
        self.gives([1, 6, 11, 6, 1], level_counts, pond=SIX, lower=SINGLES, upper=HIGH)
        self.gives([1], level_counts, SIX, LOW, LOW)
        self.gives([1], level_counts, ALONE, ONLY, ONLY)
        levels = [1, 45, 540, 2520, 5292, 5292, 2520, 540, 45, 1]
        self.gives(levels, level_counts, TEN, TEN_SINGLES, WHOLE)
        self.refuses_roads(level_counts)

    def test_against_all_worlds_between(self):
        for pond, lower, upper in all_roads(5):
            worlds = worlds_between(pond, lower, upper)
            self.assertEqual(count_between(pond, lower, upper), len(worlds))
            levels = [
                len([world for world in worlds if len(lower) - len(world) == level])
                for level in range(len(lower) - len(upper) + 1)
            ]
            self.assertEqual(level_counts(pond, lower, upper), levels)


class TestBetween(PromiseCase):
    def test_between(self):
        self.gives(WORLDS, between, FIVE, LOWER, UPPER)
        self.gives([LOW], between, pond=SIX, lower=LOW, upper=LOW)
        self.gives([ONLY], between, ALONE, ONLY, ONLY)
        worlds = [(TEN.names[:2], *TEN_SINGLES[2:]), TEN_SINGLES]
        self.gives(worlds, between, TEN, TEN_SINGLES, one_field(2))
        self.refuses_roads(between)

    def test_too_many(self):
        worlds = between(TEN, TEN_SINGLES, one_field(7))
        self.assertEqual((len(worlds), len(set(worlds))), (429, 429))
        self.assertEqual((worlds[0], worlds[-1]), (one_field(7), TEN_SINGLES))
        two_fields = (TEN.names[:4], TEN.names[4:9], ("a",))
        for upper, count in ((one_field(8), 1430), (WHOLE, 16796), (two_fields, 588)):
            told = {"count": count, "limit": 429}
            self.refuses(TooMany, told, between, TEN, TEN_SINGLES, upper)

    def test_by_rank(self):
        for pond, lower, upper in all_roads(4):
            ranked = by_rank(pond, lower, upper)
            self.assertEqual([rank for rank, _ in ranked], list(range(len(ranked))))
            self.assertEqual(between(pond, lower, upper), [world for _, world in ranked])
            self.assertEqual((ranked[0][1], ranked[-1][1]), (upper, lower))

    def test_is_between(self):
        for world in WORLDS:
            self.gives(True, is_between, FIVE, LOWER, UPPER, world)
        singles = tuple([(lot,) for lot in FIVE.names])
        self.gives(False, is_between, FIVE, LOWER, UPPER, singles)
        outside = (("a",), ("b", "d", "e"), ("c",))
        self.gives(False, is_between, pond=FIVE, lower=LOWER, upper=UPPER, world=outside)
        self.gives(False, is_between, SIX, LOW, HIGH, ASIDE)
        self.gives(True, is_between, SIX, LOW, LOW, LOW)
        self.gives(False, is_between, SIX, LOW, LOW, HIGH)
        self.gives(True, is_between, ALONE, ONLY, ONLY, ONLY)
        self.refuses_roads(is_between, [ONLY])
        self.refuses_bad_worlds(is_between, [SIX, LOW, HIGH])

    def test_against_is_between(self):
        for pond, lower, upper in all_roads(4):
            worlds = between(pond, lower, upper)
            for world in all_worlds(pond):
                expected = lies_within(lower, world) and lies_within(world, upper)
                self.assertIs(is_between(pond, lower, upper, world), expected)
                self.assertIs(world in worlds, expected)


class TestRanks(PromiseCase):
    def test_rank_between(self):
        for rank, world in enumerate(WORLDS):
            self.gives(rank, rank_between, FIVE, LOWER, UPPER, world)
        self.gives(0, rank_between, pond=SIX, lower=LOW, upper=LOW, world=LOW)
        self.gives(0, rank_between, ALONE, ONLY, ONLY, ONLY)
        self.gives(16795, rank_between, TEN, TEN_SINGLES, WHOLE, TEN_SINGLES)
        self.gives(99, rank_between, TEN, TEN_WORLD, WHOLE, TEN_WORLD)

    def test_faults_of_rank_between(self):
        self.refuses_roads(rank_between, [ONLY])
        self.refuses_bad_worlds(rank_between, [SIX, LOW, HIGH])
        self.refuses(NotWithin, {"pair": ("f", "e")}, rank_between, SIX, LOW, HIGH, SINGLES)
        self.refuses(NotWithin, {"pair": ("f", "e")}, rank_between, SIX, LOW, HIGH, ASIDE)
        self.refuses(NotWithin, {"pair": ("e", "b")}, rank_between, SIX, SINGLES, HIGH, ASIDE)
        self.refuses(NotWithin, {"pair": ("f", "a")}, rank_between, SIX, LOW, LOW, HIGH)

    def test_world_between(self):
        for rank, world in enumerate(WORLDS):
            self.gives(world, world_between, FIVE, LOWER, UPPER, rank)
        self.gives(LOW, world_between, pond=SIX, lower=LOW, upper=LOW, rank=0)
        self.gives(ONLY, world_between, ALONE, ONLY, ONLY, 0)
        self.gives(TEN_SINGLES, world_between, TEN, TEN_SINGLES, WHOLE, 16795)
        self.gives(WHOLE, world_between, TEN, TEN_SINGLES, WHOLE, 0)

    def test_out_of_range(self):
        for rank in (-1, 4, 5, HUGE, -HUGE):
            told = {"value": rank, "limit": 4}
            self.refuses(OutOfRange, told, world_between, FIVE, LOWER, UPPER, rank)
        for rank in (-1, 1):
            self.refuses(OutOfRange, {"value": rank, "limit": 1}, world_between, SIX, LOW, LOW, rank)
        told = {"value": 16796, "limit": 16796}
        self.refuses(OutOfRange, told, world_between, TEN, TEN_SINGLES, WHOLE, 16796)
        self.refuses_roads(world_between, [-1])

    def test_ranks_of_ten_lots_come_back(self):
        for lower, upper, many in ((TEN_SINGLES, WHOLE, 16796), (TEN_WORLD, WHOLE, 100)):
            for rank in range(0, many, 1 + many // 50):
                world = world_between(TEN, lower, upper, rank)
                self.assertEqual(rank_between(TEN, lower, upper, world), rank)

    def test_against_between(self):
        for pond, lower, upper in all_roads(4):
            for rank, world in enumerate(between(pond, lower, upper)):
                self.assertEqual(rank_between(pond, lower, upper, world), rank)
                self.assertEqual(world_between(pond, lower, upper, rank), world)

    def test_strifes_do_not_matter(self):
        pond = WITH_STRIFES[3]
        bare = pond.bare()
        for lower, upper in itertools.product(all_worlds(pond), repeat=2):
            if lies_within(lower, upper):
                self.assertEqual(between(pond, lower, upper), between(bare, lower, upper))


class TestFatalDeeds(PromiseCase):
    def test_fatal_paper(self):
        goal = (("f", "a"), ("e",), ("b", "d", "c"))
        self.gives(None, fatal_paper, SIX, SINGLES, goal, "a", "f")
        self.gives(None, fatal_paper, SIX, SINGLES, goal, "c", "b")
        self.gives(("f", "e"), fatal_paper, SIX, SINGLES, goal, "e", "f")
        self.gives(("a", "c"), fatal_paper, pond=SIX, world=SINGLES, goal=goal, x="c", y="a")
        self.gives(("e", "b"), fatal_paper, SIX, SINGLES, goal, "b", "e")
        # Of several pairs the first one, also if it is not the deed itself.
        start = (("f", "a"), ("e",), ("b", "d"), ("c",))
        self.gives(("f", "e"), fatal_paper, SIX, start, goal, "a", "e")
        self.gives(("f", "b"), fatal_paper, SIX, start, goal, "d", "a")
        self.gives(("j", "i"), fatal_paper, TEN, TEN_SINGLES, TEN_SINGLES, "i", "j")
        self.gives(None, fatal_paper, TEN, TEN_SINGLES, WHOLE, "i", "a")

    def test_is_fatal_paper(self):
        goal = (("f", "a"), ("e",), ("b", "d", "c"))
        start = (("f", "a"), ("e",), ("b", "d"), ("c",))
        right = [("f", "b"), ("b", "f"), ("f", "d"), ("a", "b"), ["d", "a"]]
        for pair in right:
            self.gives(True, is_fatal_paper, SIX, start, goal, "d", "a", pair)
        wrong = [("f", "a"), ("b", "d"), ("f", "e"), ("b", "c"), ("f", "f"), ("e", "e"), ("x", "b"),
                 ("f", "x"), ("x", "x"), ("", "b"), ["x", "y"]]
        for pair in wrong:
            self.gives(False, is_fatal_paper, SIX, start, goal, "d", "a", pair)
        # The deed is safe, so no pair is a paper of it.
        for pair in [*right, *wrong, ("f", "c"), ("b", "c")]:
            self.gives(False, is_fatal_paper, SIX, start, goal, "b", "c", pair)
        self.gives(True, is_fatal_paper, pond=SIX, world=start, goal=goal, x="e", y="a",
                   pair=("e", "f"))

    def test_fatal_deeds(self):
        goal = (("f", "a"), ("e",), ("b", "d", "c"))
        start = (("f", "a"), ("e",), ("b", "d"), ("c",))
        expected = [(("f", "e"), ("f", "e")), (("f", "b"), ("f", "b")), (("e", "c"), ("e", "c"))]
        self.gives(expected, fatal_deeds, SIX, start, goal)
        self.gives([], fatal_deeds, pond=TEN, world=TEN_SINGLES, goal=WHOLE)
        expected = [(pair, pair) for pair in pairs_in_order(TEN)]
        self.gives(expected, fatal_deeds, TEN, TEN_SINGLES, TEN_SINGLES)
        self.gives([], fatal_deeds, ALONE, ONLY, ONLY)
        self.gives([], fatal_deeds, TEN, WHOLE, WHOLE)

    def test_faults_of_worlds(self):
        for entry, more in ((fatal_paper, ["x", "x"]), (is_fatal_paper, ["x", "x", ("y", "y")]),
                            (fatal_deeds, [])):
            self.refuses_roads(entry, more)

    def test_faults_of_deeds(self):
        for entry, more in ((fatal_paper, []), (is_fatal_paper, [("y", "y")])):
            self.refuses(UnknownLot, {"name": "x"}, entry, SIX, LOW, HIGH, "x", "y", *more)
            self.refuses(UnknownLot, {"name": "y"}, entry, SIX, LOW, HIGH, "a", "y", *more)
            self.refuses(SameField, {"pair": ("e", "f")}, entry, SIX, LOW, HIGH, "e", "f", *more)
            self.refuses(SameField, {"pair": ("a", "a")}, entry, SIX, LOW, HIGH, "a", "a", *more)
            told = {"field": ("f", "e")}
            self.refuses(CrossedField, told, entry, SIX, LOW, HIGH, "b", "a", *more)
            told = {"pair": ("f", "c")}
            self.refuses(AtStrife, told, entry, SIX, LOW, HIGH, "c", "e", *more)

    def test_by_their_words(self):
        for pond, world, goal in all_roads(4):
            fatal = []
            for (x, y), after in deeds_from(pond, world):
                papers = [
                    pair for pair in pairs_in_order(pond)
                    if is_together(after, *pair) and not is_together(goal, *pair)
                ]
                self.assertIs(papers == [], lies_within(after, goal))
                expected = papers[0] if papers else None
                self.assertEqual(fatal_paper(pond, world, goal, y, x), expected)
                for pair in itertools.product((*pond.names, "x"), repeat=2):
                    right = tuple(pair) in papers or tuple(pair[::-1]) in papers
                    self.assertIs(is_fatal_paper(pond, world, goal, x, y, pair), right)
                if papers:
                    fatal.append(((x, y), papers[0]))
            self.assertEqual(fatal_deeds(pond, world, goal), fatal)


class TestLevels(PromiseCase):
    def test_each_world_between_lies_on_a_history(self):
        for pond, lower, upper in all_roads(4):
            passed = {
                world for row in rows_between(pond, lower, upper)
                for world in passed_by(pond, lower, row)
            }
            self.assertEqual(passed, set(between(pond, lower, upper)))

    def test_all_worlds_are_between_single_lots_and_one_field(self):
        for pond in small_ponds(5):
            singles = tuple([(lot,) for lot in pond.names])
            self.assertEqual(len(between(pond, singles, (pond.names,))), len(all_worlds(pond)))


if __name__ == "__main__":
    unittest.main()
