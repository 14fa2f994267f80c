"""mirror.py: points 22 and 23."""

import itertools
import unittest

from hedgejoin.errors import AtStrife, BadParting, Crossing, UnknownLot
from hedgejoin.fields import next_in_field
from hedgejoin.mirror import (
    fields_at, gates_paper, is_mirror, mirror, next_gate, path_of, paths_at, unmirror,
)
from hedgejoin.ponds import Pond
from tests.helpers import (
    PromiseCase, all_partings, is_together, lots_after, pairs_in_order, paths_by_words, small_ponds,
    uncrossed_partings,
)

SIX = Pond(["f", "a", "e", "b", "d", "c"], strifes=[("e", "d"), ("f", "c")])
WORLD = (("f", "e"), ("a",), ("b", "d"), ("c",))
PATHS = (("f", "a"), ("e", "d", "c"), ("b",))
SINGLES = (("f",), ("a",), ("e",), ("b",), ("d",), ("c",))
TEN = Pond(["j", "i", "h", "g", "f", "e", "d", "c", "b", "a"])
ALONE = Pond(["a"])

NO_PARTING = (("a",), ("f", "e"), ("b", "d"), ("c",))
CROSSING = (("f", "e"), ("a", "b", "d"), ("c",))
WITH_STRIFE = (("f",), ("a",), ("e", "b", "d"), ("c",))


def refuses_no_world(case, entry, *more):
    case.refuses(BadParting, {}, entry, SIX, NO_PARTING, *more)
    case.refuses(BadParting, {}, entry, SIX, (), *more)
    case.refuses(Crossing, {"lots": ("f", "a", "e", "b")}, entry, SIX, CROSSING, *more)
    case.refuses(AtStrife, {"pair": ("e", "d")}, entry, SIX, WITH_STRIFE, *more)


class TestMirror(PromiseCase):
    def test_mirror(self):
        self.gives(PATHS, mirror, SIX, WORLD)
        self.gives((SIX.names,), mirror, SIX, SINGLES)
        self.gives(tuple([(lot,) for lot in TEN.names]), mirror, TEN, (TEN.names,))
        self.gives((("a",),), mirror, pond=ALONE, world=(("a",),))
        self.gives((("b", "a"),), mirror, Pond(["b", "a"]), (("b",), ("a",)))
        self.gives((("b",), ("a",)), mirror, Pond(["b", "a"]), (("b", "a"),))
        self.gives((("a",), ("b", "c")), mirror, Pond(["a", "b", "c"]), (("a", "b"), ("c",)))
        self.gives((("a", "c"), ("b",)), mirror, Pond(["a", "b", "c"]), (("a",), ("b", "c")))

    def test_by_its_words(self):
        for pond in small_ponds(6):
            for world in uncrossed_partings(pond):
                self.assertEqual(mirror(pond, world), paths_by_words(pond, world))

    def test_faults_of_worlds(self):
        refuses_no_world(self, mirror)
        refuses_no_world(self, is_mirror, ())
        refuses_no_world(self, path_of, "x")
        refuses_no_world(self, gates_paper, "x", "y")
        refuses_no_world(self, next_gate, "x")
        refuses_no_world(self, fields_at, "x")
        refuses_no_world(self, paths_at, "x")

    def test_unmirror(self):
        self.gives(WORLD, unmirror, SIX, PATHS)
        self.gives(SINGLES, unmirror, pond=SIX, paths=(SIX.names,))
        self.gives((("a",),), unmirror, ALONE, (("a",),))
        self.gives((("b", "a"),), unmirror, Pond(["b", "a"]), (("b",), ("a",)))
        self.gives((TEN.names,), unmirror, TEN, tuple([(lot,) for lot in TEN.names]))

    def test_strifes_among_the_gates_do_not_matter(self):
        pond = Pond(["a", "b", "c"], strifes=[("b", "c")])
        self.gives((("a", "b"), ("c",)), unmirror, pond, (("a",), ("b", "c")))

    def test_unmirror_by_its_words(self):
        for pond in small_ponds(5):
            names = pond.names
            for paths in uncrossed_partings(pond):
                world = unmirror(pond, paths)
                self.assertEqual(paths_by_words(pond, world), paths)
                for low, high in itertools.combinations(range(len(pond)), 2):
                    gates = names[low:high]
                    parted = any(
                        any(gate in gates for gate in path) and any(gate not in gates for gate in path)
                        for path in paths
                    )
                    self.assertIs(is_together(world, names[low], names[high]), not parted)

    def test_faults_of_unmirror(self):
        self.refuses(BadParting, {}, unmirror, SIX, NO_PARTING)
        self.refuses(BadParting, {}, unmirror, SIX, ())
        self.refuses(Crossing, {"lots": ("f", "a", "e", "b")}, unmirror, SIX, CROSSING)
        singles = tuple([(lot,) for lot in SIX.names])
        self.refuses(AtStrife, {"pair": ("f", "c")}, unmirror, SIX, singles)
        self.refuses(
            AtStrife, {"pair": ("e", "d")}, unmirror, SIX, (("f",), ("a", "c"), ("e",), ("b",), ("d",))
        )

    def test_is_mirror(self):
        self.gives(True, is_mirror, SIX, WORLD, PATHS)
        self.gives(True, is_mirror, pond=SIX, world=SINGLES, paths=(SIX.names,))
        self.gives(False, is_mirror, SIX, WORLD, PATHS[::-1])
        self.gives(False, is_mirror, SIX, WORLD, (("a", "f"), ("e", "d", "c"), ("b",)))
        self.gives(False, is_mirror, SIX, WORLD, WORLD)
        self.gives(False, is_mirror, SIX, WORLD, PATHS[:2])
        self.gives(False, is_mirror, SIX, WORLD, ())
        self.gives(False, is_mirror, SIX, WORLD, (("x",), ()))
        self.gives(False, is_mirror, SIX, WORLD, (*PATHS, ()))
        self.gives(False, is_mirror, SIX, WORLD, CROSSING)
        self.gives(False, is_mirror, SIX, WORLD, NO_PARTING)


class TestGates(PromiseCase):
    def test_path_of(self):
        self.gives(("f", "a"), path_of, SIX, WORLD, "a")
        self.gives(("e", "d", "c"), path_of, SIX, WORLD, "c")
        self.gives(("b",), path_of, pond=SIX, world=WORLD, gate="b")
        self.gives(("a",), path_of, ALONE, (("a",),), "a")
        self.refuses(UnknownLot, {"name": "x"}, path_of, SIX, WORLD, "x")

    def test_next_gate(self):
        self.gives("a", next_gate, SIX, WORLD, "f")
        self.gives("f", next_gate, SIX, WORLD, "a")
        self.gives("d", next_gate, SIX, WORLD, "e")
        self.gives("e", next_gate, SIX, WORLD, "c")
        self.gives("b", next_gate, pond=SIX, world=WORLD, gate="b")
        self.gives("a", next_gate, ALONE, (("a",),), "a")
        self.refuses(UnknownLot, {"name": "x"}, next_gate, SIX, WORLD, "x")

    def test_next_gate_by_its_words(self):
        for pond in small_ponds(5):
            for world in uncrossed_partings(pond):
                for gate in pond.names:
                    path = path_of(pond, world, gate)
                    around = [lot for lot in lots_after(pond, gate, gate) if lot in path]
                    self.assertEqual(next_gate(pond, world, gate), around[0])
                    before = next_in_field(pond, world, pond.follows(gate), back=True)
                    self.assertEqual(next_gate(pond, world, gate), before)

    def test_gates_paper(self):
        self.gives(None, gates_paper, SIX, WORLD, "f", "a")
        self.gives(None, gates_paper, SIX, WORLD, "c", "d")
        self.gives(("f", "e"), gates_paper, SIX, WORLD, "a", "e")
        self.gives(("f", "e"), gates_paper, SIX, WORLD, "e", "a")
        self.gives(("b", "d"), gates_paper, SIX, WORLD, "b", "d")
        self.gives(("b", "d"), gates_paper, pond=SIX, world=WORLD, first="b", second="c")
        self.gives(("f", "e"), gates_paper, SIX, WORLD, "f", "b")
        self.gives(("b", "d"), gates_paper, SIX, WORLD, "b", "e")

    def test_one_gate_asked_twice(self):
        for lot in SIX.names:
            self.gives(None, gates_paper, SIX, WORLD, lot, lot)
        self.gives(None, gates_paper, ALONE, (("a",),), "a", "a")
        self.gives(None, gates_paper, TEN, (TEN.names,), "j", "j")

    def test_gates_paper_by_its_words(self):
        for pond in small_ponds(5):
            for world in uncrossed_partings(pond):
                for first, second in itertools.product(pond.names, repeat=2):
                    inside = lots_after(pond, first, second)
                    pairs = [
                        (x, y) for x, y in pairs_in_order(pond)
                        if is_together(world, x, y) and (x in inside) != (y in inside)
                    ]
                    expected = pairs[0] if pairs else None
                    self.assertEqual(gates_paper(pond, world, first, second), expected)
                    one_path = first == second or second in path_of(pond, world, first)
                    self.assertIs(expected is None, one_path)

    def test_faults_of_gates_paper(self):
        self.refuses(UnknownLot, {"name": "x"}, gates_paper, SIX, WORLD, "x", "y")
        self.refuses(UnknownLot, {"name": "y"}, gates_paper, SIX, WORLD, "a", "y")
        self.refuses(UnknownLot, {"name": "x"}, gates_paper, SIX, WORLD, "x", "x")


class TestMeeting(PromiseCase):
    def test_fields_at(self):
        self.gives([("f", "e"), ("a",)], fields_at, SIX, WORLD, "a")
        self.gives([("f", "e"), ("b", "d"), ("c",)], fields_at, SIX, WORLD, "d")
        self.gives([("b", "d")], fields_at, pond=SIX, world=WORLD, gate="b")
        self.gives([(lot,) for lot in SIX.names], fields_at, SIX, SINGLES, "c")
        self.gives([("a",)], fields_at, ALONE, (("a",),), "a")
        self.refuses(UnknownLot, {"name": "x"}, fields_at, SIX, WORLD, "x")

    def test_paths_at(self):
        self.gives([("f", "a"), ("e", "d", "c")], paths_at, SIX, WORLD, "e")
        self.gives([("e", "d", "c"), ("b",)], paths_at, SIX, WORLD, "b")
        self.gives([("f", "a")], paths_at, pond=SIX, world=WORLD, lot="a")
        self.gives([("e", "d", "c")], paths_at, SIX, WORLD, "c")
        self.gives([(lot,) for lot in TEN.names], paths_at, TEN, (TEN.names,), "h")
        self.gives([("a",)], paths_at, ALONE, (("a",),), "a")
        self.refuses(UnknownLot, {"name": "x"}, paths_at, SIX, WORLD, "x")

    def test_by_their_words(self):
        for pond in small_ponds(5):
            for world in uncrossed_partings(pond):
                paths = paths_by_words(pond, world)
                for lot in pond.names:
                    path = [path for path in paths if lot in path][0]
                    field = [field for field in world if lot in field][0]
                    met = [held for held in world if any(gate in held for gate in path)]
                    meeting = [held for held in paths if any(gate in field for gate in held)]
                    self.assertEqual(fields_at(pond, world, lot), met)
                    self.assertEqual(paths_at(pond, world, lot), meeting)


class TestAllPartingsAsPaths(PromiseCase):
    def test_unmirror_refuses_each_parting_that_crosses(self):
        pond = small_ponds(5)[4]
        good = uncrossed_partings(pond)
        for paths in all_partings(pond):
            if paths not in good:
                with self.assertRaises(Crossing):
                    unmirror(pond, paths)


if __name__ == "__main__":
    unittest.main()
