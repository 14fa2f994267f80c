"""tree.py: points 24 and 25."""

import itertools
import unittest

from hedgejoin.deeds import crossed_fields, deeds, join
from hedgejoin.errors import AtStrife, BadParting, CrossedField, SameField, UnknownLot
from hedgejoin.mirror import fields_at, mirror, paths_at
from hedgejoin.partings import code
from hedgejoin.ponds import Pond
from hedgejoin.roads import deeds_needed
from hedgejoin.tree import (
    branches, bring_together, deed_path, distance, from_tree, is_way, parted_path, tree_rows, way,
)
from tests.helpers import (
    ALONE, HUGE, SINGLES, SIX, TEN, TEN_SINGLES, TEN_WORLD, WITH_STRIFES, PromiseCase, all_cases,
    code_of, has_strife, is_together, lies_within, paths_by_words, small_ponds, uncrossed_partings,
)

WORLD = (("f", "e"), ("a",), ("b", "d"), ("c",))
TWO = Pond(["b", "a"], strifes=[("a", "b")])


def refuses_unknown_lots(case, entry, more=()):
    case.refuses(UnknownLot, {"name": "x"}, entry, SIX, WORLD, "x", "y", *more)
    case.refuses(UnknownLot, {"name": "y"}, entry, SIX, WORLD, "a", "y", *more)
    case.refuses(UnknownLot, {"name": "x"}, entry, SIX, WORLD, "x", "x", *more)
    case.refuses(UnknownLot, {"name": ""}, entry, SIX, WORLD, "", "a", *more)


def way_by_words(pond, world, x, y):
    """Point 24: the only way that alternates fields and paths that share a lot, none twice."""
    paths = paths_by_words(pond, world)
    ways = [[[field for field in world if x in field][0]]]
    while ways:
        trail = ways.pop()
        if y in trail[-1] and len(trail) % 2 == 1:
            return trail
        nexts = paths if len(trail) % 2 == 1 else world
        met = trail[1::2] if len(trail) % 2 == 1 else trail[::2]
        for node in nexts:
            if node not in met and any(lot in node for lot in trail[-1]):
                ways.append([*trail, node])
    return None


class TestWay(PromiseCase):
    def test_way(self):
        expected = [("a",), ("f", "a"), ("f", "e"), ("e", "d", "c"), ("b", "d")]
        self.gives(expected, way, SIX, WORLD, "a", "b")
        self.gives(expected[::-1], way, SIX, WORLD, "d", "a")
        self.gives([("f", "e"), ("e", "d", "c"), ("c",)], way, pond=SIX, world=WORLD, x="e", y="c")
        self.gives([("f",), SIX.names, ("c",)], way, SIX, SINGLES, "f", "c")
        self.gives([("b",), ("b", "a"), ("a",)], way, TWO, (("b",), ("a",)), "b", "a")

    def test_one_field(self):
        self.gives([("f", "e")], way, SIX, WORLD, "f", "e")
        self.gives([("f", "e")], way, SIX, WORLD, "e", "e")
        self.gives([("a",)], way, SIX, WORLD, "a", "a")
        self.gives([("a",)], way, ALONE, (("a",),), "a", "a")
        self.gives([TEN.names], way, TEN, (TEN.names,), "a", "j")

    def test_ten_lots(self):
        self.gives([("i",), TEN.names, ("b",)], way, TEN, TEN_SINGLES, "i", "b")
        expected = [("h",), ("i", "h"), ("i", "g"), ("j", "g"), ("j", "f"), ("f", "e", "a"),
                    ("d", "a"), ("d", "c", "b"), ("c",)]
        self.gives(expected, way, TEN, TEN_WORLD, "h", "c")

    def test_a_field_and_a_path_that_are_equal_as_tuples(self):
        pond = Pond(["a", "b", "c", "d"])
        world = (("a", "b"), ("c", "d"))
        self.gives([("a", "b"), ("b", "d"), ("c", "d")], way, pond, world, "a", "d")
        three = Pond(["a", "b", "c"])
        world = (("a",), ("b", "c"))
        self.gives([("a",), ("a", "c"), ("b", "c")], way, three, world, "a", "b")
        self.gives([("b", "a")], way, Pond(["b", "a"]), (("b", "a"),), "a", "b")

    def test_by_its_words(self):
        for pond, world in all_cases(5):
            for x, y in itertools.product(pond.names, repeat=2):
                expected = way_by_words(pond, world, x, y)
                self.assertEqual(way(pond, world, x, y), expected)
                self.assertEqual(way(pond, world, y, x), expected[::-1])
                self.assertEqual(distance(pond, world, x, y), len(expected) // 2)
                self.assertIs(is_way(pond, world, x, y, expected), True)
                self.assertIs(is_way(pond, world, x, y, expected[::-1]), is_together(world, x, y))

    def test_faults(self):
        for entry in (way, distance, bring_together):
            self.refuses_bad_worlds(entry, [SIX], ["x", "y"])
            refuses_unknown_lots(self, entry)
        self.refuses_bad_worlds(is_way, [SIX], ["x", "y", []])
        refuses_unknown_lots(self, is_way, [[]])

    def test_is_way(self):
        right = [("a",), ("f", "a"), ("f", "e"), ("e", "d", "c"), ("b", "d")]
        self.gives(True, is_way, SIX, WORLD, "a", "b", right)
        self.gives(True, is_way, pond=SIX, world=WORLD, x="a", y="d", items=tuple(right))
        self.gives(True, is_way, SIX, WORLD, "d", "b", [("b", "d")])
        self.gives(True, is_way, SIX, WORLD, "b", "b", (("b", "d"),))
        wrong = [
            [], (), [()], right[::-1], right[:-1], right[1:], right[:3], [*right, ()], [(), *right],
            [*right, ("e", "d", "c")], [("b", "d")], [("a",), ("b", "d")], [("x",)], [("a", "f")],
            [("a",), ("a", "f"), ("f", "e"), ("e", "d", "c"), ("b", "d")],
            [("a",), ("f", "a"), ("e", "f"), ("e", "d", "c"), ("b", "d")],
            [("a",), ("f", "a"), ("f", "e"), ("e", "d", "c"), ("d", "b")],
            [("a",), ("f", "a"), ("f", "e"), ("c", "d", "e"), ("b", "d")],
            [("a",), ("f", "a"), ("f", "e"), (), ("b", "d")],
            [("a",), ("f", "a"), ("f", "e"), ("b",), ("b", "d")],
            [("a",), ("f", "a"), ("a",), ("f", "a"), *right[2:]],
        ]
        for items in wrong:
            self.gives(False, is_way, SIX, WORLD, "a", "b", items)
            self.gives(False, is_way, SIX, WORLD, "a", "b", tuple(items))

    def test_distance(self):
        self.gives(2, distance, SIX, WORLD, "a", "d")
        self.gives(1, distance, SIX, WORLD, "a", "e")
        self.gives(0, distance, pond=SIX, world=WORLD, x="f", y="e")
        self.gives(0, distance, SIX, WORLD, "c", "c")
        self.gives(0, distance, ALONE, (("a",),), "a", "a")
        self.gives(1, distance, TEN, TEN_SINGLES, "a", "j")
        self.gives(4, distance, TEN, TEN_WORLD, "h", "c")


class TestBringTogether(PromiseCase):
    def test_bring_together(self):
        self.gives((("f", "a", "e"), ("b", "d"), ("c",)), bring_together, SIX, WORLD, "a", "e")
        self.gives((("f", "e"), ("a",), ("b", "d", "c")), bring_together, SIX, WORLD, "c", "b")
        self.gives(WORLD, bring_together, SIX, WORLD, "b", "d")
        self.gives(WORLD, bring_together, pond=SIX, world=WORLD, x="a", y="a")
        self.gives((("a",),), bring_together, ALONE, (("a",),), "a", "a")
        joined = (("j", "i", "h", "g", "f", "d", "c", "a"), ("e",), ("b",))
        self.gives(joined, bring_together, TEN, TEN_WORLD, "h", "c")
        self.gives(joined, bring_together, TEN, TEN_WORLD, "c", "h")

    def test_strifes(self):
        self.refuses(AtStrife, {"pair": ("e", "d")}, bring_together, SIX, WORLD, "a", "b")
        self.refuses(AtStrife, {"pair": ("f", "c")}, bring_together, SIX, WORLD, "a", "c")
        self.refuses(AtStrife, {"pair": ("f", "c")}, bring_together, SIX, SINGLES, "c", "f")
        self.refuses(AtStrife, {"pair": ("b", "a")}, bring_together, TWO, (("b",), ("a",)), "a", "b")
        # Of two strifes the first one in pair order, whatever their place on the way.
        pond = Pond(["a", "b", "c", "d", "e"], strifes=[("b", "e"), ("a", "e"), ("c", "d")])
        world = (("a", "d"), ("b",), ("c",), ("e",))
        self.refuses(AtStrife, {"pair": ("a", "e")}, bring_together, pond, world, "b", "e")
        self.gives((("a", "d"), ("b", "c"), ("e",)), bring_together, pond, world, "b", "c")

    def test_smallest_of_its_kind(self):
        for pond, world in all_cases(5):
            for x, y in itertools.product(pond.names, repeat=2):
                over = [
                    parting for parting in uncrossed_partings(pond)
                    if lies_within(world, parting) and is_together(parting, x, y)
                ]
                least = [one for one in over if all(lies_within(one, other) for other in over)]
                self.assertEqual(len(least), 1)
                if has_strife(pond, least[0]):
                    pairs = [pair for pair in pond.strifes if is_together(least[0], *pair)]
                    attributes = {"pair": pairs[0]}
                    self.refuses(AtStrife, attributes, bring_together, pond, world, x, y)
                else:
                    self.assertEqual(bring_together(pond, world, x, y), least[0])
                    needed = deeds_needed(pond, world, least[0])
                    self.assertEqual(distance(pond, world, x, y), needed)


class TestTreeRows(PromiseCase):
    def test_tree_rows(self):
        rows = [(0, 0), (1, 0), (0, 1), (2, 2), (2, 1), (3, 1)]
        self.gives(rows, tree_rows, SIX, WORLD)
        self.gives([(at, 0) for at in range(6)], tree_rows, pond=SIX, world=SINGLES)
        self.gives([(0, 0)], tree_rows, ALONE, (("a",),))
        self.gives([(0, at) for at in range(10)], tree_rows, TEN, (TEN.names,))
        self.gives([(0, 0), (1, 0)], tree_rows, TWO, (("b",), ("a",)))
        self.refuses_bad_worlds(tree_rows, [SIX])

    def test_from_tree(self):
        rows = [(0, 0), (1, 0), (0, 1), (2, 2), (2, 1), (3, 1)]
        self.gives(WORLD, from_tree, SIX, rows)
        self.gives(WORLD, from_tree, SIX, tuple(rows))
        self.gives(WORLD, from_tree, pond=SIX, pairs=[list(pair) for pair in rows])
        self.gives((("a",),), from_tree, ALONE, [(0, 0)])
        self.gives((TEN.names,), from_tree, TEN, [(0, at) for at in range(10)])
        self.gives(TEN_SINGLES, from_tree, TEN, [[at, 0] for at in range(10)])

    def test_no_tree_rows(self):
        rows = [(0, 0), (1, 0), (0, 1), (2, 2), (2, 1), (3, 1)]
        wrong = [
            [], (), rows[:-1], [*rows, (3, 1)], rows[::-1], [*rows, (0, 0)],
            [(0, 0), (1, 0), (0, 1), (2, 2), (2, 1), (3, 2)],
            [(0, 0), (1, 0), (0, 2), (2, 1), (2, 2), (3, 2)],
            [(0, 1), (1, 1), (0, 0), (2, 2), (2, 0), (3, 0)],
            [(1, 0), (0, 0), (1, 1), (2, 2), (2, 1), (3, 1)],
            [(0, 0), (1, 0), (0, 1), (2, 2), (2, 1), (-1, 1)],
            [(0, 0), (1, 0), (0, 1), (2, 2), (2, 1), (3, -1)],
            [(0, 0), (1, 0), (0, 1), (2, 2), (2, 1), (HUGE, 1)],
            [(0, 0), (1, 0), (0, 1), (2, 2), (2, 1), (3, HUGE)],
            [(-HUGE, 0), (1, 0), (0, 1), (2, 2), (2, 1), (3, 1)],
            [(0, 0), (0, 0), (0, 0), (0, 0), (0, 0), (0, 0)],
            [(0, 0), (1, 0), (0, 0), (1, 0), (2, 0), (3, 0)],
        ]
        for pairs in wrong:
            self.refuses(BadParting, {}, from_tree, SIX, pairs)
        self.refuses(BadParting, {}, from_tree, ALONE, [])
        self.refuses(BadParting, {}, from_tree, ALONE, [(0, 1)])
        self.refuses(BadParting, {}, from_tree, ALONE, [(1, 0)])

    def test_a_strife_comes_after_bad_partings(self):
        everything = [(0, at) for at in range(6)]
        self.refuses(AtStrife, {"pair": ("f", "c")}, from_tree, SIX, everything)
        self.refuses(BadParting, {}, from_tree, SIX, [(0, 0), *everything[:-1]])
        self.refuses(AtStrife, {"pair": ("b", "a")}, from_tree, TWO, [(0, 0), (0, 1)])
        self.refuses(BadParting, {}, from_tree, TWO, [(0, 0), (0, 0)])

    def test_crossing_codes(self):
        pond = small_ponds(4)[3]
        for paths in itertools.product(range(4), repeat=4):
            self.refuses(BadParting, {}, from_tree, pond, list(zip((0, 1, 0, 1), paths)))

    def test_by_their_words(self):
        for pond, world in all_cases(6):
            paths = paths_by_words(pond, world)
            expected = list(zip(code_of(pond, world), code_of(pond, paths)))
            self.assertEqual(tree_rows(pond, world), expected)
            self.assertEqual(from_tree(pond, expected), world)
            self.assertEqual([pair[0] for pair in expected], list(code(pond, world)))

    def test_all_rows_of_small_ponds(self):
        for pond in [*small_ponds(3), *WITH_STRIFES[:2]]:
            size = len(pond.names)
            right = {}
            for world in uncrossed_partings(pond):
                paths = paths_by_words(pond, world)
                right[tuple(zip(code_of(pond, world), code_of(pond, paths)))] = world
            pairs = list(itertools.product(range(size), repeat=2))
            for rows in itertools.product(pairs, repeat=size):
                if rows not in right:
                    self.refuses(BadParting, {}, from_tree, pond, rows)
                elif has_strife(pond, right[rows]):
                    self.refuses(AtStrife, {"pair": pond.strifes[0]}, from_tree, pond, rows)
                else:
                    self.assertEqual(from_tree(pond, rows), right[rows])


class TestDeedPath(PromiseCase):
    def test_deed_path(self):
        self.gives(("f", "a"), deed_path, SIX, WORLD, "a", "e")
        self.gives(("e", "d", "c"), deed_path, SIX, WORLD, "c", "b")
        self.gives(SIX.names, deed_path, pond=SIX, world=SINGLES, x="a", y="d")
        self.gives(("d", "c", "b"), deed_path, TEN, TEN_WORLD, "a", "b")

    def test_strifes_do_not_matter(self):
        self.gives(("e", "d", "c"), deed_path, SIX, WORLD, "f", "b")
        self.gives(("e", "d", "c"), deed_path, SIX, WORLD, "c", "f")
        self.gives(("b", "a"), deed_path, TWO, (("b",), ("a",)), "a", "b")
        self.gives((("e", "d"), ("c",)), parted_path, SIX, WORLD, "c", "f")
        self.gives((("b",), ("a",)), parted_path, TWO, (("b",), ("a",)), "a", "b")

    def test_parted_path(self):
        self.gives((("f",), ("a",)), parted_path, SIX, WORLD, "a", "e")
        self.gives((("e", "c"), ("d",)), parted_path, SIX, WORLD, "c", "b")
        parted = (("f", "d", "c"), ("a", "e", "b"))
        self.gives(parted, parted_path, pond=SIX, world=SINGLES, x="a", y="d")
        self.gives((("d", "c"), ("b",)), parted_path, TEN, TEN_WORLD, "a", "b")

    def test_faults(self):
        for entry in (deed_path, parted_path):
            self.refuses_bad_worlds(entry, [SIX], ["x", "y"])
            refuses_unknown_lots(self, entry)
            self.refuses(SameField, {"pair": ("e", "f")}, entry, SIX, WORLD, "e", "f")
            self.refuses(SameField, {"pair": ("a", "a")}, entry, SIX, WORLD, "a", "a")
            self.refuses(SameField, {"pair": ("a", "a")}, entry, ALONE, (("a",),), "a", "a")
            self.refuses(CrossedField, {"field": ("f", "e")}, entry, SIX, WORLD, "a", "c")
            self.refuses(CrossedField, {"field": ("f", "e")}, entry, SIX, WORLD, "d", "a")
            # The way from h to c meets i g, j f and d a; the first in the order of the world counts.
            self.refuses(CrossedField, {"field": ("j", "f")}, entry, TEN, TEN_WORLD, "h", "c")
            self.refuses(CrossedField, {"field": ("j", "f")}, entry, TEN, TEN_WORLD, "c", "h")

    def test_against_the_way_and_the_mirror(self):
        for pond, world in all_cases(5):
            for x, y in itertools.product(pond.names, repeat=2):
                if is_together(world, x, y):
                    continue
                trail = way(pond, world, x, y)
                inner = [field for field in world if field in trail[2:-1:2]]
                self.assertEqual(crossed_fields(pond, world, x, y), inner)
                if inner:
                    for entry in (deed_path, parted_path):
                        with self.assertRaises(CrossedField) as caught:
                            entry(pond, world, x, y)
                        self.assertEqual(caught.exception.field, inner[0])
                    continue
                path = deed_path(pond, world, x, y)
                self.assertEqual([path], trail[1:-1])
                bare = pond.bare()
                before = mirror(bare, world)
                after = mirror(bare, join(bare, world, x, y))
                new = tuple([one for one in after if one not in before])
                self.assertEqual([one for one in before if one not in after], [path])
                self.assertEqual(parted_path(pond, world, x, y), new)

    def test_each_deed_that_stands_has_one_path(self):
        for pond, world in all_cases(4):
            for x, y in deeds(pond, world):
                others = paths_at(pond, world, y)
                common = [path for path in paths_at(pond, world, x) if path in others]
                self.assertEqual(common, [deed_path(pond, world, x, y)])


class TestBranches(PromiseCase):
    def test_branches(self):
        self.gives([("a",), ("b", "d", "c")], branches, SIX, WORLD, "f")
        self.gives([("a",), ("b", "d", "c")], branches, SIX, WORLD, "e")
        self.gives([("f", "a", "e", "c"), ()], branches, pond=SIX, world=WORLD, lot="d")
        self.gives([("f", "e", "b", "d", "c")], branches, SIX, WORLD, "a")
        self.gives([("f", "e", "b", "d", "c")], branches, SIX, SINGLES, "a")
        self.gives([()], branches, ALONE, (("a",),), "a")
        self.gives([()] * 10, branches, TEN, (TEN.names,), "d")
        expected = [("i", "h", "g"), ("e", "d", "c", "b", "a")]
        self.gives(expected, branches, TEN, TEN_WORLD, "f")
        self.refuses_bad_worlds(branches, [SIX], ["x"])
        self.refuses(UnknownLot, {"name": "x"}, branches, SIX, WORLD, "x")

    def test_by_its_words(self):
        for pond, world in all_cases(5):
            for lot in pond.names:
                expected = []
                for path in paths_by_words(pond, world):
                    if any(lot in field and gate in field for gate in path for field in world):
                        expected.append(tuple([
                            other for other in pond.names
                            if not is_together(world, lot, other)
                            and way_by_words(pond, world, lot, other)[1] == path
                        ]))
                self.assertEqual(branches(pond, world, lot), expected)

    def test_number_of_fields_behind_the_paths(self):
        for pond, world in all_cases(5):
            for lot in pond.names:
                met = [lots for lots in branches(pond, world, lot) if lots]
                direct = [path for path in paths_at(pond, world, lot)
                          if len(fields_at(pond, world, path[0])) > 1]
                self.assertEqual(len(met), len(direct))


if __name__ == "__main__":
    unittest.main()
