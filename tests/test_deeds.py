"""deeds.py: point 19."""

import unittest

from hedgejoin.deeds import (
    crossed_fields, deeds, join, pasts, plain_deed, refusal, refused_deeds,
)
from hedgejoin.errors import (
    AtStrife, BadParting, CrossedField, Crossing, SameField, UnknownLot,
)
from hedgejoin.ponds import Pond
from tests.helpers import (
    PromiseCase, all_worlds, code_of, deed_cause, joined, pairs_in_order, small_ponds,
)

SIX = Pond(["f", "a", "e", "b", "d", "c"], strifes=[("c", "f"), ("b", "a"), ("e", "d"), ("a", "d")])
WORLD = (("f", "b"), ("a", "e"), ("d",), ("c",))
SINGLES = (("f",), ("a",), ("e",), ("b",), ("d",), ("c",))
TEN = Pond(["j", "i", "h", "g", "f", "e", "d", "c", "b", "a"])
ALONE = Pond(["a"])

NO_PARTING = (("a", "e"), ("f", "b"), ("d",), ("c",))
CROSSING = (("f", "e"), ("a", "b"), ("d",), ("c",))
WITH_STRIFE = (("f", "d", "c"), ("a",), ("e",), ("b",))


def refuses_no_world(case, entry, *more):
    """The errors of a world come in their order, ahead of the faults of later arguments."""
    case.refuses(BadParting, {}, entry, SIX, NO_PARTING, *more)
    case.refuses(BadParting, {}, entry, SIX, (), *more)
    case.refuses(Crossing, {"lots": ("f", "a", "e", "b")}, entry, SIX, CROSSING, *more)
    case.refuses(AtStrife, {"pair": ("f", "c")}, entry, SIX, WITH_STRIFE, *more)


def ponds_with_strifes():
    return [
        Pond(["a"]),
        Pond(["b", "a"]),
        Pond(["b", "a"], strifes=[("a", "b")]),
        Pond(["c", "a", "b"], strifes=[("b", "c")]),
        Pond(["d", "c", "b", "a"], strifes=[("a", "b"), ("d", "b")]),
        Pond(["c", "a", "e", "b", "d"], strifes=[("b", "c"), ("d", "a"), ("a", "e")]),
        Pond(["c", "a", "e", "b", "d"]),
    ]


class TestCrossedFields(PromiseCase):
    def test_crossed_fields(self):
        world = (("f", "c"), ("a", "d"), ("e",), ("b",))
        pond = SIX.bare()
        self.gives([("a", "d")], crossed_fields, pond, world, "c", "b")
        self.gives([("a", "d")], crossed_fields, pond=pond, world=world, x="e", y="c")
        self.gives([], crossed_fields, pond, world, "a", "f")
        self.gives([], crossed_fields, pond, world, "d", "b")
        nested = Pond(["a", "b", "c", "d", "e", "f", "g", "h", "i", "j"])
        inner = (("a", "j"), ("b", "i"), ("c", "h"), ("d", "g"), ("e",), ("f",))
        self.gives([("b", "i"), ("c", "h"), ("d", "g")], crossed_fields, nested, inner, "f", "j")
        self.gives([("c", "h")], crossed_fields, nested, inner, "i", "d")

    def test_strifes_do_not_matter(self):
        self.gives([], crossed_fields, SIX, SINGLES, "f", "c")
        self.gives([("f", "b")], crossed_fields, SIX, WORLD, "a", "d")

    def test_faults(self):
        refuses_no_world(self, crossed_fields, "x", "x")
        self.refuses(UnknownLot, {"name": "x"}, crossed_fields, SIX, WORLD, "x", "y")
        self.refuses(UnknownLot, {"name": "y"}, crossed_fields, SIX, WORLD, "a", "y")
        self.refuses(UnknownLot, {"name": "x"}, crossed_fields, SIX, WORLD, "x", "x")
        self.refuses(SameField, {"pair": ("b", "f")}, crossed_fields, SIX, WORLD, "b", "f")
        self.refuses(SameField, {"pair": ("c", "c")}, crossed_fields, SIX, WORLD, "c", "c")


class TestRefusal(PromiseCase):
    def test_each_cause(self):
        self.gives(("unknown", "x"), refusal, SIX, WORLD, "x", "y")
        self.gives(("unknown", "y"), refusal, SIX, WORLD, "a", "y")
        self.gives(("unknown", ""), refusal, SIX, WORLD, "", "")
        self.gives(("unknown", "B 7"), refusal, SIX, WORLD, "B 7", "a")
        self.gives(("same", ("b", "f")), refusal, SIX, WORLD, "b", "f")
        self.gives(("same", ("f", "b")), refusal, SIX, WORLD, "f", "b")
        self.gives(("same", ("d", "d")), refusal, SIX, WORLD, "d", "d")
        self.gives(("crossed", ("f", "b")), refusal, SIX, WORLD, "c", "e")
        self.gives(("strife", ("a", "b")), refusal, SIX, WORLD, "e", "b")
        self.gives(("strife", ("f", "c")), refusal, SIX, WORLD, "c", "f")
        self.gives(None, refusal, SIX, WORLD, "b", "d")
        self.gives(None, refusal, pond=SIX, world=WORLD, x="c", y="d")

    def test_crossed_comes_before_strife(self):
        self.gives(("crossed", ("f", "b")), refusal, SIX, WORLD, "d", "a")

    def test_several_crossings_and_several_strifes(self):
        pond = Pond(["d", "c", "b", "a"], strifes=[("a", "c"), ("b", "d"), ("d", "a"), ("c", "b")])
        self.gives(("strife", ("d", "b")), refusal, pond, (("d", "c"), ("b", "a")), "c", "a")
        self.gives(("strife", ("d", "b")), refusal, pond, (("d", "c"), ("b", "a")), "a", "c")
        inner = (("j", "a"), ("i", "b"), ("h", "c"), ("g",), ("f",), ("e",), ("d",))
        self.gives(("crossed", ("i", "b")), refusal, TEN, inner, "e", "a")
        self.gives(("crossed", ("i", "b")), refusal, TEN, inner, "j", "d")

    def test_it_raises_only_the_errors_of_the_world(self):
        refuses_no_world(self, refusal, "x", "x")
        refuses_no_world(self, refusal, "a", "a")

    def test_by_its_words(self):
        for pond in ponds_with_strifes():
            for world in all_worlds(pond):
                for x in (*pond.names, "x"):
                    for y in (*pond.names, "y"):
                        expected = deed_cause(pond, world, x, y)
                        self.assertEqual(refusal(pond, world, x, y), expected)


class TestJoin(PromiseCase):
    def test_join(self):
        self.gives((("f", "b", "d"), ("a", "e"), ("c",)), join, SIX, WORLD, "d", "b")
        self.gives((("f", "b"), ("a", "e"), ("d", "c")), join, pond=SIX, world=WORLD, x="c", y="d")
        self.gives((("f", "e"), ("a",), ("b",), ("d",), ("c",)), join, SIX, SINGLES, "e", "f")
        self.gives((("b", "a"),), join, Pond(["b", "a"]), (("b",), ("a",)), "a", "b")

    def test_faults(self):
        refuses_no_world(self, join, "x", "x")
        self.refuses(UnknownLot, {"name": "x"}, join, SIX, WORLD, "x", "y")
        self.refuses(UnknownLot, {"name": "y"}, join, SIX, WORLD, "a", "y")
        self.refuses(SameField, {"pair": ("b", "f")}, join, SIX, WORLD, "b", "f")
        self.refuses(SameField, {"pair": ("d", "d")}, join, SIX, WORLD, "d", "d")
        self.refuses(SameField, {"pair": ("a", "a")}, join, ALONE, (("a",),), "a", "a")
        self.refuses(CrossedField, {"field": ("f", "b")}, join, SIX, WORLD, "d", "a")
        self.refuses(AtStrife, {"pair": ("a", "b")}, join, SIX, WORLD, "b", "e")

    def test_by_its_words(self):
        for pond in ponds_with_strifes():
            for world in all_worlds(pond):
                for x, y in pairs_in_order(pond):
                    if deed_cause(pond, world, x, y) is None:
                        expected = joined(pond, world, x, y)
                        self.assertEqual(join(pond, world, x, y), expected)
                        self.assertEqual(join(pond, world, y, x), expected)


class TestPlainDeed(PromiseCase):
    def test_plain_deed(self):
        self.gives(("f", "a"), plain_deed, SIX, WORLD, "e", "b")
        self.gives(("f", "a"), plain_deed, SIX, WORLD, "b", "e")
        self.gives(("f", "c"), plain_deed, SIX, WORLD, "c", "b")
        self.gives(("d", "c"), plain_deed, pond=SIX, world=WORLD, x="c", y="d")

    def test_crossings_do_not_matter(self):
        self.gives(("a", "d"), plain_deed, SIX, WORLD, "d", "e")

    def test_faults(self):
        refuses_no_world(self, plain_deed, "x", "x")
        self.refuses(UnknownLot, {"name": "x"}, plain_deed, SIX, WORLD, "x", "y")
        self.refuses(UnknownLot, {"name": "y"}, plain_deed, SIX, WORLD, "a", "y")
        self.refuses(SameField, {"pair": ("b", "f")}, plain_deed, SIX, WORLD, "b", "f")
        self.refuses(SameField, {"pair": ("c", "c")}, plain_deed, SIX, WORLD, "c", "c")


class TestDeeds(PromiseCase):
    def test_deeds(self):
        self.gives([("f", "d"), ("d", "c")], deeds, SIX, WORLD)
        self.gives([], deeds, ALONE, (("a",),))
        self.gives([("b", "a")], deeds, pond=Pond(["b", "a"]), world=(("b",), ("a",)))
        self.gives([], deeds, Pond(["b", "a"], strifes=[("a", "b")]), (("b",), ("a",)))
        self.gives([], deeds, TEN, (TEN.names,))
        singles = tuple([(lot,) for lot in TEN.names])
        self.gives(pairs_in_order(TEN), deeds, TEN, singles)
        refuses_no_world(self, deeds)

    def test_refused_deeds(self):
        causes = [
            (("f", "a"), ("strife", ("a", "b"))),
            (("f", "c"), ("strife", ("f", "c"))),
            (("a", "d"), ("crossed", ("f", "b"))),
            (("a", "c"), ("crossed", ("f", "b"))),
        ]
        self.gives(causes, refused_deeds, SIX, WORLD)
        self.gives([], refused_deeds, ALONE, (("a",),))
        self.gives([], refused_deeds, pond=Pond(["b", "a"]), world=(("b",), ("a",)))
        refuses_no_world(self, refused_deeds)

    def test_by_their_words(self):
        for pond in ponds_with_strifes():
            for world in all_worlds(pond):
                firsts = [field[0] for field in world]
                plain = [(x, y) for at, x in enumerate(firsts) for y in firsts[at + 1:]]
                causes = [(deed, deed_cause(pond, world, *deed)) for deed in plain]
                standing = [deed for deed, cause in causes if cause is None]
                others = [(deed, cause) for deed, cause in causes if cause is not None]
                self.assertEqual(deeds(pond, world), standing)
                self.assertEqual(refused_deeds(pond, world), others)


class TestPasts(PromiseCase):
    def test_pasts(self):
        world = (("f",), ("a", "e", "b"), ("d", "c"))
        before = [
            (("f",), ("a", "e", "b"), ("d",), ("c",)),
            (("f",), ("a", "e"), ("b",), ("d", "c")),
            (("f",), ("a", "b"), ("e",), ("d", "c")),
            (("f",), ("a",), ("e", "b"), ("d", "c")),
        ]
        pond = SIX.without_strife("a", "b")
        self.gives(before, pasts, pond, world)
        self.gives([], pasts, pond=ALONE, world=(("a",),))
        self.gives([], pasts, SIX, SINGLES)
        self.gives([(("b",), ("a",))], pasts, Pond(["b", "a"]), (("b", "a"),))
        self.assertEqual(len(pasts(TEN, (TEN.names,))), 45)
        refuses_no_world(self, pasts)

    def test_by_their_words(self):
        for pond in ponds_with_strifes() + small_ponds(5):
            worlds = all_worlds(pond)
            for world in worlds:
                before = [
                    past for past in worlds
                    if any(
                        deed_cause(pond, past, x, y) is None
                        and joined(pond, past, x, y) == world
                        for x, y in pairs_in_order(pond)
                    )
                ]
                before = sorted(before, key=lambda past: code_of(pond, past))
                self.assertEqual(pasts(pond, world), before)


if __name__ == "__main__":
    unittest.main()
