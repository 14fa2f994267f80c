"""counts.py: points 14 and 28."""

import itertools
import unittest
from math import factorial

from hedgejoin.counts import (
    all_worlds, count_by_sizes, count_worlds, next_world, rank_world, world_at,
)
from hedgejoin.errors import BadParting, Crossing, OutOfRange, TooMany
from hedgejoin.fields import sizes_of
from hedgejoin.ponds import Pond
from tests.helpers import (
    ALONE, HUGE, SINGLES, SIX, TEN, TEN_SINGLES, WITH_STRIFES, PromiseCase, code_of, has_strife,
    small_ponds, uncrossed_partings,
)

WORLDS_OF = [1, 1, 2, 5, 14, 42, 132, 429, 1430, 4862, 16796]
TWO = Pond(["b", "a"], strifes=[("a", "b")])
NO_PARTING = (("a",), ("f", "e"), ("b", "d"), ("c",))
CROSSING = (("f", "b"), ("a",), ("e", "d"), ("c",))


def in_code_order(pond):
    """All uncrossed partings of the pond, sorted by their codes."""
    return sorted(uncrossed_partings(pond), key=lambda parting: code_of(pond, parting))


def choose(many, few):
    if few < 0 or few > many:
        return 0
    return factorial(many) // factorial(few) // factorial(many - few)


class TestCountWorlds(PromiseCase):
    def test_count_worlds(self):
        for size, many in enumerate(WORLDS_OF):
            self.gives(many, count_worlds, size)
            self.gives(many, count_worlds, size, fields=None)
        self.gives(14, count_worlds, size=4)

    def test_fields(self):
        self.gives(6, count_worlds, 4, fields=2)
        self.gives(1, count_worlds, 4, fields=4)
        self.gives(1, count_worlds, 10, fields=1)
        self.gives(5292, count_worlds, size=10, fields=5)
        for size in range(1, 11):
            for fields in range(1, 13):
                expected = choose(size, fields) * choose(size, fields - 1) // size
                self.gives(expected, count_worlds, size, fields=fields)

    def test_no_such_partings(self):
        for size in range(1, 11):
            for fields in (0, -1, -5, size + 1, 11, HUGE, -HUGE):
                self.gives(0, count_worlds, size, fields=fields)

    def test_no_lots(self):
        self.gives(1, count_worlds, 0)
        self.gives(1, count_worlds, 0, fields=0)
        for fields in (1, -1, 2, HUGE, -HUGE):
            self.gives(0, count_worlds, 0, fields=fields)

    def test_out_of_range(self):
        for size in (-1, 11, 12, -HUGE, HUGE):
            self.refuses(OutOfRange, {"value": size, "limit": 11}, count_worlds, size)
            for fields in (0, -1, 1, HUGE):
                told = {"value": size, "limit": 11}
                self.refuses(OutOfRange, told, count_worlds, size, fields=fields)

    def test_against_all_partings(self):
        for pond in small_ponds(6):
            size = len(pond.names)
            partings = uncrossed_partings(pond)
            self.assertEqual(count_worlds(size), len(partings))
            for fields in range(-1, size + 2):
                many = len([one for one in partings if len(one) == fields])
                self.assertEqual(count_worlds(size, fields=fields), many)


class TestCountBySizes(PromiseCase):
    def test_count_by_sizes(self):
        self.gives(2, count_by_sizes, [2, 2])
        self.gives(1, count_by_sizes, [])
        self.gives(1, count_by_sizes, ())
        self.gives(1, count_by_sizes, sizes=[10])
        self.gives(1, count_by_sizes, (1,) * 10)
        self.gives(5, count_by_sizes, [1, 4])
        self.gives(5, count_by_sizes, (4, 1))
        self.gives(1260, count_by_sizes, [3, 1, 2, 1, 3])
        self.gives(42, count_by_sizes, [2, 2, 2, 2, 2])

    def test_too_many(self):
        self.refuses(TooMany, {"count": 11, "limit": 10}, count_by_sizes, [5, 6])
        self.refuses(TooMany, {"count": 11, "limit": 10}, count_by_sizes, (1,) * 11)
        self.refuses(TooMany, {"count": 20, "limit": 10}, count_by_sizes, sizes=[10, 10])
        self.refuses(TooMany, {"count": 2000, "limit": 10}, count_by_sizes, [10] * 200)

    def test_against_all_partings(self):
        for pond in small_ponds(6):
            found = {}
            for parting in uncrossed_partings(pond):
                sizes = sizes_of(pond, parting)
                found[sizes] = found.get(sizes, 0) + 1
            for sizes, many in found.items():
                for row in set(itertools.permutations(sizes)):
                    self.assertEqual(count_by_sizes(list(row)), many)


class TestRanks(PromiseCase):
    def test_rank_world(self):
        self.gives(0, rank_world, SIX, (SIX.names,))
        self.gives(131, rank_world, SIX, SINGLES)
        self.gives(0, rank_world, ALONE, (("a",),))
        self.gives(1, rank_world, TWO, (("b",), ("a",)))
        self.gives(0, rank_world, pond=TWO, parting=(("b", "a"),))
        self.gives(16795, rank_world, TEN, TEN_SINGLES)
        self.gives(0, rank_world, TEN, TEN_SINGLES, alike=True)
        self.gives(0, rank_world, TEN, (TEN.names,), alike=True)
        self.gives(0, rank_world, TEN, (TEN.names,), alike=False)
        last = (("j",), ("i",), ("h",), ("g",), ("f",), ("e",), ("d",), ("c",), ("b", "a"))
        self.gives(44, rank_world, pond=TEN, parting=last, alike=True)
        self.gives(16794, rank_world, TEN, last)

    def test_world_at(self):
        self.gives((SIX.names,), world_at, SIX, 0)
        self.gives(SINGLES, world_at, SIX, 131)
        self.gives((("a",),), world_at, ALONE, 0)
        self.gives((("a",),), world_at, ALONE, 0, fields=1)
        self.gives(TEN_SINGLES, world_at, pond=TEN, rank=16795)
        self.gives(TEN_SINGLES, world_at, TEN, 0, fields=10)
        self.gives((TEN.names,), world_at, pond=TEN, rank=0, fields=1)
        self.gives((TEN.names,), world_at, TEN, 0, fields=None)

    def test_strifes_do_not_matter(self):
        for pond in WITH_STRIFES:
            for rank, parting in enumerate(in_code_order(pond)):
                self.gives(rank, rank_world, pond, parting)
                self.gives(parting, world_at, pond, rank)

    def test_all_ranks_of_small_ponds(self):
        for pond in small_ponds(6):
            partings = in_code_order(pond)
            for rank, parting in enumerate(partings):
                self.assertEqual(rank_world(pond, parting), rank)
                self.assertEqual(world_at(pond, rank), parting)
            for fields in range(1, len(pond.names) + 1):
                alike = [one for one in partings if len(one) == fields]
                for rank, parting in enumerate(alike):
                    self.assertEqual(rank_world(pond, parting, alike=True), rank)
                    self.assertEqual(world_at(pond, rank, fields=fields), parting)

    def test_ranks_of_ten_lots_come_back(self):
        before = None
        for rank in range(0, 16796, 97):
            parting = world_at(TEN, rank)
            self.assertEqual(rank_world(TEN, parting), rank)
            if before is not None:
                self.assertLess(code_of(TEN, before), code_of(TEN, parting))
            before = parting
        for rank in range(0, 5292, 101):
            parting = world_at(TEN, rank, fields=5)
            self.assertEqual(len(parting), 5)
            self.assertEqual(rank_world(TEN, parting, alike=True), rank)

    def test_faults_of_rank_world(self):
        for more in ({}, {"alike": True}, {"alike": False}):
            self.refuses(BadParting, {}, rank_world, SIX, NO_PARTING, **more)
            self.refuses(BadParting, {}, rank_world, SIX, (), **more)
            lots = {"lots": ("f", "e", "b", "d")}
            self.refuses(Crossing, lots, rank_world, SIX, CROSSING, **more)

    def test_out_of_range(self):
        for rank in (-1, 132, 133, HUGE, -HUGE):
            self.refuses(OutOfRange, {"value": rank, "limit": 132}, world_at, SIX, rank)
            told = {"value": rank, "limit": 132}
            self.refuses(OutOfRange, told, world_at, SIX, rank, fields=None)
        for rank in (-1, 50, HUGE, -HUGE):
            self.refuses(OutOfRange, {"value": rank, "limit": 50}, world_at, SIX, rank, fields=3)
        for fields in (0, -1, 7, HUGE, -HUGE):
            for rank in (0, -1, 1):
                told = {"value": rank, "limit": 0}
                self.refuses(OutOfRange, told, world_at, SIX, rank, fields=fields)
        self.refuses(OutOfRange, {"value": 16796, "limit": 16796}, world_at, TEN, 16796)
        self.refuses(OutOfRange, {"value": 1, "limit": 1}, world_at, ALONE, 1)


class TestAllWorlds(PromiseCase):
    def test_all_worlds(self):
        self.gives([(("a",),)], all_worlds, ALONE)
        self.gives([(("b",), ("a",))], all_worlds, TWO)
        self.gives([(("b", "a"),), (("b",), ("a",))], all_worlds, TWO.bare())
        self.gives([SINGLES], all_worlds, pond=SIX, fields=6)
        self.gives([], all_worlds, SIX, fields=1)
        self.gives([], all_worlds, TWO, fields=1)

    def test_fields(self):
        for fields in (0, -1, 7, HUGE, -HUGE):
            self.gives([], all_worlds, SIX, fields=fields)
        self.gives([(("a",),)], all_worlds, ALONE, fields=1)
        self.gives([], all_worlds, ALONE, fields=0)

    def test_seven_lots(self):
        seven = Pond(TEN.names[:7])
        self.assertEqual(len(all_worlds(seven)), 429)
        self.assertEqual(all_worlds(seven)[0], (seven.names,))
        strange = Pond(TEN.names[:7], strifes=[("j", "i")])
        self.assertEqual(len(all_worlds(strange, fields=6)), 20)

    def test_too_many(self):
        eight = Pond(TEN.names[:8], strifes=[("j", "i")])
        for fields in (None, 0, 1, HUGE):
            self.refuses(TooMany, {"count": 8, "limit": 7}, all_worlds, eight, fields=fields)
        self.refuses(TooMany, {"count": 10, "limit": 7}, all_worlds, TEN)

    def test_by_its_words(self):
        for pond in [*small_ponds(6), *WITH_STRIFES, SIX]:
            worlds = [one for one in in_code_order(pond) if not has_strife(pond, one)]
            self.assertEqual(all_worlds(pond), worlds)
            self.assertEqual(all_worlds(pond, fields=None), worlds)
            for fields in range(-1, len(pond.names) + 2):
                alike = [one for one in worlds if len(one) == fields]
                self.assertEqual(all_worlds(pond, fields=fields), alike)

    def test_against_counts(self):
        for pond in small_ponds(6):
            size = len(pond.names)
            worlds = all_worlds(pond)
            self.assertEqual(len(worlds), count_worlds(size))
            for fields in range(size + 2):
                many = count_worlds(size, fields=fields)
                self.assertEqual(len(all_worlds(pond, fields=fields)), many)
            for sizes in {sizes_of(pond, world) for world in worlds}:
                alike = [world for world in worlds if sizes_of(pond, world) == sizes]
                self.assertEqual(count_by_sizes(sizes), len(alike))


class TestNextWorld(PromiseCase):
    def test_next_world(self):
        self.gives(None, next_world, SIX, SINGLES)
        self.gives((SIX.names[:-1], ("c",)), next_world, SIX, (SIX.names,))
        self.gives(None, next_world, ALONE, (("a",),))
        self.gives((("b",), ("a",)), next_world, pond=TWO, parting=(("b", "a"),))
        self.gives(None, next_world, TWO, (("b",), ("a",)))
        self.gives(None, next_world, TEN, TEN_SINGLES)
        self.gives((TEN.names[:-1], ("a",)), next_world, TEN, (TEN.names,))

    def test_faults(self):
        self.refuses(BadParting, {}, next_world, SIX, NO_PARTING)
        self.refuses(BadParting, {}, next_world, SIX, ())
        self.refuses(Crossing, {"lots": ("f", "e", "b", "d")}, next_world, SIX, CROSSING)

    def test_against_all_worlds_of_a_bare_pond(self):
        for pond in [*small_ponds(6), *WITH_STRIFES]:
            worlds = all_worlds(pond.bare())
            for world, after in zip(worlds, [*worlds[1:], None]):
                self.assertEqual(next_world(pond, world), after)


if __name__ == "__main__":
    unittest.main()
