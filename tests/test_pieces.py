"""pieces.py: points 22, 42 and 43."""

import itertools
import unittest

from hedgejoin.errors import (
    AtStrife, BadParting, BadSize, BadSplit, Crossing, NotWithin, RepeatedName, UnknownLot,
)
from hedgejoin.mirror import path_of
from hedgejoin.partings import is_world
from hedgejoin.pieces import (
    arcs, count_at_field, count_at_path, cut_at_field, cut_at_path, gaps, glue_at_field,
    glue_at_path,
)
from hedgejoin.ponds import Pond, sub_pond
from tests.helpers import (
    ALONE, LOW, ONLY, SINGLES, SIX, TEN, TEN_SINGLES, TEN_WORLD, WHOLE, WITH_STRIFES,
    PromiseCase, all_cases, all_worlds, is_together, lots_after, on_one_path, pairs_in_order,
    small_by_words, small_ponds,
)

TWO = Pond(["b", "a"], strifes=[("a", "b")])
TWO_SINGLES = (("b",), ("a",))
FIVE = Pond(["c", "a", "e", "b", "d"], strifes=[("c", "d"), ("a", "b")])
WORLD = (("c",), ("a", "e"), ("b", "d"))
FEW = [*small_ponds(4), *WITH_STRIFES, FIVE]


def arcs_by_words(pond, gates):
    """Point 42 as it stands."""
    ordered = [lot for lot in pond.names if lot in gates]
    return [
        tuple(lots_after(pond, gate, ordered[(at + 1) % len(ordered)]))
        for at, gate in enumerate(ordered)
    ]


def gaps_by_words(pond, lots):
    """Point 43 as it stands."""
    return [arc[:-1] for arc in arcs_by_words(pond, lots) if arc[:-1]]


def choices(pond, parts):
    """All lists of worlds, one for the piece of each part of the shore."""
    worlds = [all_worlds(sub_pond(pond, part)) for part in parts]
    return [list(chosen) for chosen in itertools.product(*worlds)]


def some_lots(pond):
    """Each non-empty choice of lots, in shore order and the other way around."""
    names = pond.names
    return [
        lots
        for many in range(1, len(names) + 1)
        for chosen in itertools.combinations(names, many)
        for lots in (list(chosen), chosen[::-1])
    ]


def are_on_one_path(pond, world, gates):
    """Point 22 as it stands, for any number of gates."""
    ordered = [lot for lot in pond.names if lot in gates]
    return all(on_one_path(pond, world, g, h) for g, h in itertools.combinations(ordered, 2))


class TestArcsAndGaps(PromiseCase):
    def test_arcs(self):
        self.gives([("e", "b"), ("d", "c", "a")], arcs, FIVE, ["a", "b"])
        self.gives([("e", "b"), ("d", "c", "a")], arcs, FIVE, ("b", "a"))
        self.gives([("e", "b"), ("d",), ("c", "a")], arcs, pond=FIVE, gates=["d", "a", "b"])
        # One gate: all lots, beginning after it.
        self.gives([("b", "d", "c", "a", "e")], arcs, FIVE, ["e"])
        self.gives([("c", "a", "e", "b", "d")], arcs, FIVE, ["d"])
        self.gives([("a", "e", "b", "d", "c")], arcs, FIVE, ("c",))
        # All gates: each arc is one lot, the one after the gate.
        self.gives([("a",), ("e",), ("b",), ("d",), ("c",)], arcs, FIVE, FIVE.names)
        self.gives([("a",)], arcs, ALONE, ["a"])
        self.gives([("a",), ("b",)], arcs, TWO, ["a", "b"])
        self.gives([TEN.names[5:] + TEN.names[:5]], arcs, TEN, ["f"])
        self.gives([(lot,) for lot in TEN.names[1:]] + [("j",)], arcs, TEN, TEN.names[::-1])

    def test_gaps(self):
        self.gives([("e",), ("d", "c")], gaps, FIVE, ["a", "b"])
        self.gives([("e",), ("d", "c")], gaps, pond=FIVE, lots=("b", "a"))
        self.gives([("d", "c")], gaps, FIVE, ["a", "e", "b"])
        self.gives([("b", "d", "c", "a")], gaps, FIVE, ["e"])
        self.gives([("c", "a", "e", "b")], gaps, FIVE, ["d"])
        # All lots leave no gap; nor does the one lot of a pond.
        self.gives([], gaps, FIVE, FIVE.names[::-1])
        self.gives([], gaps, ALONE, ["a"])
        self.gives([("a",)], gaps, TWO, ["b"])
        self.gives([], gaps, TWO, ["a", "b"])
        self.gives([TEN.names[5:] + TEN.names[:4]], gaps, TEN, ["f"])
        self.gives([], gaps, TEN, TEN.names)
        # Strifes do not matter here.
        self.gives([("a", "e", "b")], gaps, FIVE, ["c", "d"])

    def test_faults_of_gates_and_lots(self):
        entries = [
            (arcs, ()), (gaps, ()), (count_at_path, ()), (count_at_field, ()),
            (glue_at_path, ([],)), (glue_at_field, ([],)),
        ]
        for entry, after in entries:
            self.refuses(BadSize, {"size": 0}, entry, FIVE, [], *after)
            self.refuses(BadSize, {"size": 0}, entry, FIVE, (), *after)
            self.refuses(UnknownLot, {"name": "x"}, entry, FIVE, ["x"], *after)
            self.refuses(UnknownLot, {"name": "x"}, entry, FIVE, ["a", "x", "a", "y"], *after)
            self.refuses(UnknownLot, {"name": "x"}, entry, FIVE, ("x", "x"), *after)
            self.refuses(RepeatedName, {"name": "a"}, entry, FIVE, ["c", "a", "a", "x"], *after)
            self.refuses(RepeatedName, {"name": "d"}, entry, FIVE, ("d", "c", "d", "c"), *after)
            self.refuses(RepeatedName, {"name": "a"}, entry, ALONE, ["a"] * 200, *after)

    def test_by_their_words(self):
        for pond in [*small_ponds(5), FIVE]:
            for lots in some_lots(pond):
                self.assertEqual(arcs(pond, lots), arcs_by_words(pond, lots))
                self.assertEqual(gaps(pond, lots), gaps_by_words(pond, lots))

    def test_each_lot_lies_in_one_arc_or_gap(self):
        for pond in small_ponds(5):
            for lots in some_lots(pond):
                met = [lot for arc in arcs(pond, lots) for lot in arc]
                self.assertEqual(sorted(met), sorted(pond.names))
                met = [lot for gap in gaps(pond, lots) for lot in gap]
                self.assertEqual(sorted([*met, *lots]), sorted(pond.names))


class TestPaths(PromiseCase):
    def test_cut(self):
        self.gives([(("a",), ("e",)), (("b",), ("d", "c"))], cut_at_path, FIVE.bare(),
                   (("c", "d"), ("a",), ("e",), ("b",)), ["c", "e"])
        self.gives([(("e",),), (("b", "d"), ("c",), ("a",))], cut_at_path,
                   FIVE, (("c",), ("a",), ("e",), ("b", "d")), ["a", "e"])
        # Worlds of pieces follow the shore order of the piece, so c comes last here.
        one = (("a", "e"), ("b", "d"), ("c",))
        self.gives([one], cut_at_path, pond=FIVE, world=WORLD, gates=["c"])
        self.gives([(("a", "e"),), (("b", "d"),), (("c",),)], cut_at_path, FIVE, WORLD, ("d", "c", "e"))
        singles = (("c",), ("a",), ("e",), ("b",), ("d",))
        self.gives([((lot,),) for lot in ("a", "e", "b", "d", "c")], cut_at_path, FIVE, singles, FIVE.names)
        self.gives([ONLY], cut_at_path, ALONE, ONLY, ["a"])
        self.gives([(("a",), ("b",))], cut_at_path, TWO, TWO_SINGLES, ["b"])
        self.gives([(("a",),), (("b",),)], cut_at_path, TWO, TWO_SINGLES, ["a", "b"])
        self.gives([WHOLE], cut_at_path, TEN, WHOLE, ["a"])
        self.gives([((lot,),) for lot in [*TEN.names[1:], "j"]], cut_at_path, TEN, TEN_SINGLES, TEN.names)

    def test_faults_of_cut(self):
        self.refuses_bad_worlds(cut_at_path, [SIX], [[]])
        self.refuses_bad_worlds(cut_at_path, [SIX], [["x", "x"]])
        self.refuses(BadSize, {"size": 0}, cut_at_path, FIVE, WORLD, [])
        self.refuses(UnknownLot, {"name": "x"}, cut_at_path, FIVE, WORLD, ["a", "x", "a"])
        self.refuses(RepeatedName, {"name": "a"}, cut_at_path, FIVE, WORLD, ["a", "a", "x"])
        self.refuses(NotWithin, {"pair": ("a", "e")}, cut_at_path, FIVE, WORLD, ["b", "a"])
        self.refuses(NotWithin, {"pair": ("b", "d")}, cut_at_path, FIVE, WORLD, ["c", "b"])
        self.refuses(NotWithin, {"pair": ("j", "b")}, cut_at_path, TEN, WHOLE, ["a", "c"])

    def test_glue(self):
        worlds = [(("a",), ("e",)), (("b",), ("d", "c"))]
        glued = (("c", "d"), ("a",), ("e",), ("b",))
        self.gives(glued, glue_at_path, FIVE.bare(), ["c", "e"], worlds)
        self.gives(glued, glue_at_path, pond=FIVE.bare(), gates=("e", "c"), worlds=tuple(worlds))
        self.gives(WORLD, glue_at_path, FIVE, ["c"], [(("a", "e"), ("b", "d"), ("c",))])
        self.gives(ONLY, glue_at_path, ALONE, ["a"], [ONLY])
        self.gives(TWO_SINGLES, glue_at_path, TWO, ["b", "a"], [(("a",),), (("b",),)])
        self.gives(TWO_SINGLES, glue_at_path, TWO, ["a"], [TWO_SINGLES])
        self.gives(TEN_WORLD, glue_at_path, TEN, ["a"], [TEN_WORLD])
        self.gives(TEN_SINGLES, glue_at_path, TEN, TEN.names, [((lot,),) for lot in [*TEN.names[1:], "j"]])

    def test_numbers_of_worlds_to_be_glued(self):
        right = [(("a", "e"),), (("b", "d"),), (("c",),)]
        gates = ["c", "e", "d"]
        self.gives(WORLD, glue_at_path, FIVE, gates, right)
        for worlds in ([], right[:1], right[:2], [(), ()], [(("x",),)]):
            self.refuses(BadSplit, {"place": len(worlds)}, glue_at_path, FIVE, gates, worlds)
        for worlds in ([*right, (("c",),)], [()] * 4, [()] * 200, right + right):
            self.refuses(BadSplit, {"place": 3}, glue_at_path, FIVE, gates, worlds)
        self.refuses(BadSplit, {"place": 0}, glue_at_path, ALONE, ["a"], [])
        self.refuses(BadSplit, {"place": 1}, glue_at_path, ALONE, ["a"], [ONLY, ONLY])

    def test_items_that_are_no_worlds(self):
        right = [(("a", "e"),), (("b",), ("d", "c"))]
        gates = ["c", "e"]
        bare = FIVE.bare()
        # No parting, one of other lots, one in the order of the pond, not of the piece.
        for bad in ((), ((),), (("b",),), (("x",), ("d", "c")), (("b",), ("c", "d")), (("d", "c"), ("b",)),
                    (("b", "b"), ("d", "c")), (("b",), (), ("d", "c"))):
            self.refuses(BadSplit, {"place": 1}, glue_at_path, bare, gates, [right[0], bad])
            self.refuses(BadSplit, {"place": 0}, glue_at_path, bare, gates, [bad, right[1]])
            self.refuses(BadSplit, {"place": 0}, glue_at_path, bare, gates, [bad, bad])
        # A strife of the pond is one of the piece.
        self.refuses(BadSplit, {"place": 1}, glue_at_path, FIVE, gates, right)
        # A world of a piece is uncrossed.
        crossed = (("a", "b"), ("e", "d"), ("c",))
        self.refuses(BadSplit, {"place": 0}, glue_at_path, bare, ["c"], [crossed])

    def test_faults_of_gates_come_first(self):
        self.refuses(UnknownLot, {"name": "x"}, glue_at_path, FIVE, ["a", "x"], [()])
        self.refuses(RepeatedName, {"name": "a"}, glue_at_path, FIVE, ["a", "a"], [(), ()])
        self.refuses(BadSize, {"size": 0}, glue_at_path, FIVE, [], [()])

    def test_counts(self):
        self.gives(10, count_at_path, FIVE, ["c", "e"])
        self.gives(42, count_at_path, pond=FIVE, gates=["b"])
        self.gives(1, count_at_path, FIVE, FIVE.names)
        self.gives(1, count_at_path, ALONE, ["a"])
        self.gives(2, count_at_path, TWO, ["a"])
        self.gives(1, count_at_path, TWO, ("a", "b"))
        self.gives(16796, count_at_path, TEN, ["e"])
        self.gives(42 * 42, count_at_path, TEN, ["a", "f"])
        self.gives(1, count_at_path, TEN, TEN.names)

    def test_cut_and_glue_undo_each_other(self):
        for pond, world in all_cases(5):
            for gates in some_lots(pond):
                if not are_on_one_path(pond, world, gates):
                    parts = arcs_by_words(pond, gates)
                    parted = [
                        pair for pair in pairs_in_order(pond)
                        if is_together(world, *pair) and not is_together(parts, *pair)
                    ]
                    self.refuses(NotWithin, {"pair": parted[0]}, cut_at_path, pond, world, gates)
                    continue
                worlds = cut_at_path(pond, world, gates)
                parts = arcs_by_words(pond, gates)
                self.assertEqual(worlds, [small_by_words(part, world) for part in parts])
                for part, piece in zip(parts, worlds):
                    self.assertTrue(is_world(sub_pond(pond, part), piece))
                self.assertEqual(glue_at_path(pond, gates, worlds), world)
                self.assertLessEqual(set(gates), set(path_of(pond, world, gates[0])))

    def test_the_worlds_are_the_free_choices(self):
        for pond in FEW:
            for gates in some_lots(pond):
                found = []
                for worlds in choices(pond, arcs_by_words(pond, gates)):
                    world = glue_at_path(pond, gates, worlds)
                    self.assertEqual(cut_at_path(pond, world, gates), worlds)
                    found.append(world)
                fitting = [world for world in all_worlds(pond) if are_on_one_path(pond, world, gates)]
                self.assertEqual(sorted(found), sorted(fitting))

    def test_counts_by_their_words(self):
        for pond in FEW:
            worlds = all_worlds(pond.bare())
            for gates in some_lots(pond):
                many = len([world for world in worlds if are_on_one_path(pond, world, gates)])
                self.assertEqual(count_at_path(pond, gates), many)


class TestFields(PromiseCase):
    def test_cut(self):
        self.gives((("a", "e"), [(("b", "d"), ("c",))]), cut_at_field, FIVE, WORLD, "e")
        self.gives((("b", "d"), [(("c",), ("a", "e"))]), cut_at_field, FIVE, WORLD, "b")
        self.gives((("c",), [(("a", "e"), ("b", "d"))]), cut_at_field, pond=FIVE, world=WORLD, lot="c")
        world = (("c", "e"), ("a",), ("b", "d"))
        self.gives((("c", "e"), [(("a",),), (("b", "d"),)]), cut_at_field, FIVE, world, "c")
        self.gives((("a",), [(("e", "c"), ("b", "d"))]), cut_at_field, FIVE, world, "a")
        self.gives((("a",), []), cut_at_field, ALONE, ONLY, "a")
        self.gives((("a",), [(("b",),)]), cut_at_field, TWO, TWO_SINGLES, "a")
        self.gives((TEN.names, []), cut_at_field, TEN, WHOLE, "d")
        pieces = [(("i", "g"), ("h",)), (("e",), ("d", "a"), ("c",), ("b",))]
        self.gives((("j", "f"), pieces), cut_at_field, TEN, TEN_WORLD, "f")

    def test_faults_of_cut(self):
        self.refuses_bad_worlds(cut_at_field, [SIX], ["x"])
        self.refuses(UnknownLot, {"name": "x"}, cut_at_field, FIVE, WORLD, "x")
        self.refuses(UnknownLot, {"name": ""}, cut_at_field, ALONE, ONLY, "")

    def test_glue(self):
        self.gives(WORLD, glue_at_field, FIVE, ["e", "a"], [(("b", "d"), ("c",))])
        world = (("c", "e"), ("a",), ("b", "d"))
        self.gives(world, glue_at_field, pond=FIVE, lots=("c", "e"), worlds=((("a",),), (("b", "d"),)))
        self.gives(WORLD, glue_at_field, FIVE, ["c"], [(("a", "e"), ("b", "d"))])
        self.gives((FIVE.names,), glue_at_field, FIVE.bare(), FIVE.names[::-1], [])
        self.gives(ONLY, glue_at_field, ALONE, ["a"], ())
        self.gives(TWO_SINGLES, glue_at_field, TWO, ["a"], [(("b",),)])
        self.gives(WHOLE, glue_at_field, TEN, TEN.names, [])
        self.gives(LOW, glue_at_field, SIX, ["d", "b"], [(("c",), ("f", "e"), ("a",))])

    def test_strifes_among_the_lots(self):
        for lots in (["c", "d"], ("d", "c"), ["a", "d", "c", "b"], FIVE.names):
            for worlds in ([], [()], [(), (), ()]):
                self.refuses(AtStrife, {"pair": ("c", "d")}, glue_at_field, FIVE, lots, worlds)
        self.refuses(AtStrife, {"pair": ("a", "b")}, glue_at_field, FIVE, ["b", "c", "a"], [()])
        self.refuses(AtStrife, {"pair": ("b", "a")}, glue_at_field, TWO, ["b", "a"], [])
        # The faults of the lots come ahead of it.
        self.refuses(UnknownLot, {"name": "x"}, glue_at_field, FIVE, ["c", "d", "x"], [])
        self.refuses(RepeatedName, {"name": "c"}, glue_at_field, FIVE, ["c", "d", "c"], [])

    def test_numbers_of_worlds_to_be_glued(self):
        right = [(("a",),), (("b", "d"),)]
        lots = ["c", "e"]
        for worlds in ([], right[:1], [()], [(("x",),)]):
            self.refuses(BadSplit, {"place": len(worlds)}, glue_at_field, FIVE, lots, worlds)
        for worlds in ([*right, ()], [()] * 3, [()] * 200):
            self.refuses(BadSplit, {"place": 2}, glue_at_field, FIVE, lots, worlds)
        # All lots leave no gap, so no world is due.
        self.refuses(BadSplit, {"place": 0}, glue_at_field, ALONE, ["a"], [()])
        self.refuses(BadSplit, {"place": 0}, glue_at_field, TEN, TEN.names, [ONLY])

    def test_items_that_are_no_worlds(self):
        bare = FIVE.bare()
        for bad in ((), ((),), (("b",),), (("x",), ("d",)), (("d", "b"),), (("d",), ("b",)), (("b", "d", "b"),)):
            self.refuses(BadSplit, {"place": 1}, glue_at_field, bare, ["e", "c"], [(("a",),), bad])
            self.refuses(BadSplit, {"place": 0}, glue_at_field, bare, ["e", "c"], [bad, (("b", "d"),)])
            self.refuses(BadSplit, {"place": 0}, glue_at_field, bare, ["e", "c"], [bad, bad])
        self.refuses(BadSplit, {"place": 0}, glue_at_field, FIVE, ["e"], [(("b",), ("d", "c"), ("a",))])
        crossed = (("b", "c"), ("d", "a"))
        self.refuses(BadSplit, {"place": 0}, glue_at_field, bare, ["e"], [crossed])
        self.gives((("c",), ("a", "d"), ("e",), ("b",)), glue_at_field, bare, ["e"],
                   [(("b",), ("d", "a"), ("c",))])

    def test_counts(self):
        self.gives(2, count_at_field, FIVE, ["c", "e"])
        self.gives(14, count_at_field, pond=FIVE, lots=["b"])
        self.gives(1, count_at_field, FIVE, FIVE.names)
        # Strifes do not matter.
        self.gives(5, count_at_field, FIVE, ["c", "d"])
        self.gives(1, count_at_field, ALONE, ["a"])
        self.gives(1, count_at_field, TWO, ["a"])
        self.gives(1, count_at_field, TWO, ("a", "b"))
        self.gives(4862, count_at_field, TEN, ["e"])
        self.gives(14 * 14, count_at_field, TEN, ["a", "f"])

    def test_cut_and_glue_undo_each_other(self):
        for pond, world in all_cases(5):
            for field in world:
                parts = gaps_by_words(pond, field)
                for lot in field:
                    found, worlds = cut_at_field(pond, world, lot)
                    self.assertEqual(found, field)
                    self.assertEqual(worlds, [small_by_words(part, world) for part in parts])
                    self.assertEqual(glue_at_field(pond, found, worlds), world)
                    self.assertEqual(glue_at_field(pond, found[::-1], worlds), world)

    def test_the_worlds_are_the_free_choices(self):
        for pond in FEW:
            for lots in some_lots(pond):
                field = tuple([lot for lot in pond.names if lot in lots])
                fitting = [world for world in all_worlds(pond) if field in world]
                met = [pair for pair in pond.strifes if set(pair) <= set(lots)]
                if met:
                    self.assertEqual(fitting, [])
                    self.refuses(AtStrife, {"pair": met[0]}, glue_at_field, pond, lots, [])
                    continue
                found = []
                for worlds in choices(pond, gaps_by_words(pond, lots)):
                    world = glue_at_field(pond, lots, worlds)
                    self.assertEqual(cut_at_field(pond, world, lots[0]), (field, worlds))
                    found.append(world)
                self.assertEqual(sorted(found), sorted(fitting))

    def test_counts_by_their_words(self):
        for pond in FEW:
            worlds = all_worlds(pond.bare())
            for lots in some_lots(pond):
                field = tuple([lot for lot in pond.names if lot in lots])
                many = len([world for world in worlds if field in world])
                self.assertEqual(count_at_field(pond, lots), many)


class TestNothingChanges(PromiseCase):
    def test_a_changed_list_changes_no_later_answer(self):
        worlds = [(("a",), ("e",)), (("b",), ("d", "c"))]
        gates = ["c", "e"]
        world = glue_at_path(FIVE.bare(), gates, worlds)
        worlds.pop()
        gates.append("a")
        self.assertEqual(world, (("c", "d"), ("a",), ("e",), ("b",)))
        field, pieces = cut_at_field(FIVE, WORLD, "a")
        pieces.append("spoiled")
        self.assertEqual(cut_at_field(FIVE, WORLD, "a"), (field, [(("b", "d"), ("c",))]))

    def test_crossing_worlds_are_refused_first(self):
        crossed = (("c", "e"), ("a", "b"), ("d",))
        for entry, after in ((cut_at_path, ["x"]), (cut_at_field, "x")):
            self.refuses(Crossing, {"lots": ("c", "a", "e", "b")}, entry, FIVE, crossed, after)
            self.refuses(BadParting, {}, entry, FIVE, SINGLES, after)


if __name__ == "__main__":
    unittest.main()
