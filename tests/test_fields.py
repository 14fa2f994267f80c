"""fields.py: points 17 and 18."""

import itertools
import unittest

from hedgejoin.errors import BadParting, BadSize, NotWithin, RepeatedName, UnknownLot
from hedgejoin.fields import (
    are_together, chain, cut, field_of, first_parted, from_hedges, groups_cross, hedges,
    next_in_field, parts_of, restrict, sizes_of, take_out, within,
)
from hedgejoin.partings import first_crossing
from hedgejoin.ponds import Pond, sub_pond
from tests.helpers import (
    PromiseCase, all_partings, fours_in_order, is_together, lies_within, pairs_in_order,
    small_ponds,
)

# Strifes do not matter in this module, so they may be together everywhere.
SIX = Pond(["f", "a", "e", "b", "d", "c"], strifes=[("f", "b"), ("a", "d"), ("e", "c")])
CROSSING = (("f", "e", "b"), ("a", "d"), ("c",))
SINGLES = (("f",), ("a",), ("e",), ("b",), ("d",), ("c",))
ONE = (("f", "a", "e", "b", "d", "c"),)
TEN = Pond(["j", "i", "h", "g", "f", "e", "d", "c", "b", "a"])
ALONE = Pond(["a"])
NO_PARTING = (("a", "d"), ("f", "e", "b"), ("c",))


class TestOneField(PromiseCase):
    def test_field_of(self):
        self.gives(("f", "e", "b"), field_of, SIX, CROSSING, "e")
        self.gives(("a", "d"), field_of, SIX, CROSSING, "d")
        self.gives(("c",), field_of, pond=SIX, parting=CROSSING, lot="c")
        self.gives(("a",), field_of, ALONE, (("a",),), "a")
        self.gives(TEN.names, field_of, TEN, (TEN.names,), "a")
        self.refuses(UnknownLot, {"name": "x"}, field_of, SIX, CROSSING, "x")
        self.refuses(BadParting, {}, field_of, SIX, NO_PARTING, "x")

    def test_next_in_field(self):
        self.gives("e", next_in_field, SIX, CROSSING, "f")
        self.gives("b", next_in_field, SIX, CROSSING, "e")
        self.gives("f", next_in_field, SIX, CROSSING, "b")
        self.gives("a", next_in_field, SIX, CROSSING, "d", back=False)
        self.gives("b", next_in_field, SIX, CROSSING, "f", back=True)
        self.gives("f", next_in_field, SIX, CROSSING, "e", back=True)
        self.gives("c", next_in_field, SIX, CROSSING, "c")
        self.gives("c", next_in_field, pond=SIX, parting=CROSSING, lot="c", back=True)
        self.gives("a", next_in_field, ALONE, (("a",),), "a", back=True)
        self.gives("j", next_in_field, TEN, (TEN.names,), "a")
        self.gives("a", next_in_field, TEN, (TEN.names,), "j", back=True)
        self.refuses(UnknownLot, {"name": "x"}, next_in_field, SIX, CROSSING, "x")
        self.refuses(BadParting, {}, next_in_field, SIX, NO_PARTING, "x", back=True)

    def test_are_together(self):
        for x, y in itertools.product(SIX.names, repeat=2):
            self.gives(is_together(CROSSING, x, y), are_together, SIX, CROSSING, x, y)
        self.gives(True, are_together, pond=SIX, parting=CROSSING, x="c", y="c")
        self.refuses(UnknownLot, {"name": "x"}, are_together, SIX, CROSSING, "x", "y")
        self.refuses(UnknownLot, {"name": "y"}, are_together, SIX, CROSSING, "a", "y")
        self.refuses(UnknownLot, {"name": "x"}, are_together, SIX, CROSSING, "x", "x")
        self.refuses(BadParting, {}, are_together, SIX, NO_PARTING, "x", "y")

    def test_sizes_of(self):
        self.gives((3, 2, 1), sizes_of, SIX, (("f",), ("a", "d"), ("e", "b", "c")))
        self.gives((1, 1, 1, 1, 1, 1), sizes_of, SIX, SINGLES)
        self.gives((6,), sizes_of, pond=SIX, parting=ONE)
        self.gives((10,), sizes_of, TEN, (TEN.names,))
        self.refuses(BadParting, {}, sizes_of, SIX, NO_PARTING)


class TestGroupsCross(PromiseCase):
    def test_groups_in_any_order(self):
        self.gives(("f", "a", "e", "d"), groups_cross, SIX, ["b", "e", "f"], ("d", "a"))
        self.gives(("f", "a", "e", "d"), groups_cross, SIX, ("a", "d"), ["e", "f", "b"])
        self.gives(("a", "e", "b", "c"), groups_cross, pond=SIX, first=["c", "e"], second=["b", "a"])
        self.gives(None, groups_cross, SIX, ["f", "b"], ["a", "e"])
        self.gives(None, groups_cross, SIX, ["f", "a"], ["e", "b"])
        self.gives(None, groups_cross, SIX, [], ["f", "a", "e", "b", "d", "c"])
        self.gives(None, groups_cross, SIX, ["f", "a", "e", "b", "d", "c"], ())
        self.gives(None, groups_cross, SIX, [], [])
        self.gives(None, groups_cross, ALONE, ["a"], ["a"])

    def test_groups_that_share_and_repeat_lots(self):
        self.gives(None, groups_cross, SIX, ["f", "e"], ["f", "e"])
        self.gives(None, groups_cross, SIX, ["f", "e", "b"], ["a", "e", "f"])
        self.gives(("f", "a", "e", "b"), groups_cross, SIX, ["f", "e", "b"], ["a", "e", "b"])
        self.gives(("f", "a", "e", "b"), groups_cross, SIX, list(SIX.names), list(SIX.names))
        self.gives(None, groups_cross, SIX, ["a", "a", "d", "d"], ["a", "d", "a"])
        self.gives(("f", "a", "e", "b"), groups_cross, SIX, ["e", "f"] * 100, ("b", "a", "b", "a"))
        self.gives(("j", "i", "h", "g"), groups_cross, TEN, list(TEN.names) * 20, TEN.names[::-1] * 20)

    def test_by_its_words(self):
        pond = Pond(["e", "d", "c", "b", "a"])
        groups = [
            [lot for at, lot in enumerate(pond.names) if chosen & (1 << at)] for chosen in range(32)
        ]
        for one, two in itertools.product(groups, repeat=2):
            found = [
                (a, b, c, d)
                for a, b, c, d in fours_in_order(pond)
                if (a in one and c in one and b in two and d in two)
                or (a in two and c in two and b in one and d in one)
            ]
            expected = found[0] if found else None
            self.assertEqual(groups_cross(pond, one, tuple(two[::-1])), expected)

    def test_faults(self):
        self.refuses(UnknownLot, {"name": "x"}, groups_cross, SIX, ["a", "x"], ["y"])
        self.refuses(UnknownLot, {"name": "y"}, groups_cross, SIX, ["a", "a"], ["b", "y", "x"])
        self.refuses(UnknownLot, {"name": "x"}, groups_cross, SIX, [], ["x"])
        self.refuses(UnknownLot, {"name": "x"}, groups_cross, SIX, ["x"], [])


class TestWithin(PromiseCase):
    def test_within(self):
        lower = (("f", "b"), ("a",), ("e",), ("d",), ("c",))
        self.gives(True, within, SIX, lower, CROSSING)
        self.gives(False, within, SIX, CROSSING, lower)
        self.gives(True, within, SIX, CROSSING, CROSSING)
        self.gives(True, within, pond=SIX, lower=SINGLES, upper=ONE)
        self.gives(False, within, SIX, ONE, SINGLES)
        self.gives(True, within, ALONE, (("a",),), (("a",),))

    def test_first_parted(self):
        self.gives(None, first_parted, SIX, SINGLES, CROSSING)
        self.gives(("f", "a"), first_parted, SIX, ONE, CROSSING)
        self.gives(("f", "e"), first_parted, SIX, CROSSING, SINGLES)
        upper = (("f", "e", "b"), ("a",), ("d",), ("c",))
        self.gives(("a", "d"), first_parted, SIX, CROSSING, upper)
        lower = (("f",), ("a",), ("e",), ("b", "d", "c"))
        self.gives(("b", "d"), first_parted, pond=SIX, lower=lower, upper=CROSSING)
        self.gives(None, first_parted, SIX, CROSSING, CROSSING)

    def test_by_their_words(self):
        for pond in small_ponds(5):
            partings = all_partings(pond)
            for lower, upper in itertools.product(partings, repeat=2):
                pairs = [
                    (x, y) for x, y in pairs_in_order(pond)
                    if is_together(lower, x, y) and not is_together(upper, x, y)
                ]
                self.assertEqual(first_parted(pond, lower, upper), pairs[0] if pairs else None)
                self.assertIs(within(pond, lower, upper), lies_within(lower, upper))

    def test_parts_of(self):
        lower = (("f", "b"), ("a",), ("e",), ("d",), ("c",))
        parts = [(("f", "b"), ("e",)), (("a",), ("d",)), (("c",),)]
        self.gives(parts, parts_of, SIX, lower, CROSSING)
        self.gives([lower], parts_of, pond=SIX, lower=lower, upper=ONE)
        self.gives([(field,) for field in CROSSING], parts_of, SIX, CROSSING, CROSSING)
        self.gives([(("a",),)], parts_of, ALONE, (("a",),), (("a",),))
        self.gives([tuple([(lot,) for lot in TEN.names])], parts_of, TEN,
                   tuple([(lot,) for lot in TEN.names]), (TEN.names,))

    def test_faults_of_parts_of(self):
        self.refuses(NotWithin, {"pair": ("f", "a")}, parts_of, SIX, ONE, CROSSING)
        self.refuses(NotWithin, {"pair": ("f", "e")}, parts_of, SIX, CROSSING, SINGLES)

    def test_faults_of_partings_in_order(self):
        for entry in (within, first_parted, parts_of, cut, chain):
            self.refuses(BadParting, {}, entry, SIX, NO_PARTING, ONE)
            self.refuses(BadParting, {}, entry, SIX, ONE, NO_PARTING)
            self.refuses(BadParting, {}, entry, SIX, (), ())


class TestCutAndChain(PromiseCase):
    FIRST = (("f", "a", "e"), ("b", "d"), ("c",))
    SECOND = (("f",), ("a", "e", "d"), ("b",), ("c",))

    def test_cut(self):
        expected = (("f",), ("a", "e"), ("b",), ("d",), ("c",))
        self.gives(expected, cut, SIX, self.FIRST, self.SECOND)
        self.gives(expected, cut, pond=SIX, first=self.SECOND, second=self.FIRST)
        self.gives(CROSSING, cut, SIX, CROSSING, ONE)
        self.gives(SINGLES, cut, SIX, CROSSING, SINGLES)
        self.gives((("a",),), cut, ALONE, (("a",),), (("a",),))

    def test_chain(self):
        expected = (("f", "a", "e", "b", "d"), ("c",))
        self.gives(expected, chain, SIX, self.FIRST, self.SECOND)
        self.gives(expected, chain, pond=SIX, first=self.SECOND, second=self.FIRST)
        self.gives(CROSSING, chain, SIX, CROSSING, SINGLES)
        self.gives(ONE, chain, SIX, CROSSING, ONE)
        self.gives((("a",),), chain, ALONE, (("a",),), (("a",),))

    def test_a_chain_may_cross(self):
        first = (("f", "e"), ("a",), ("b",), ("d",), ("c",))
        second = (("f",), ("a", "b"), ("e",), ("d",), ("c",))
        self.gives((("f", "e"), ("a", "b"), ("d",), ("c",)), chain, SIX, first, second)

    def test_by_their_words(self):
        for pond in small_ponds(4):
            partings = all_partings(pond)
            for first, second in itertools.product(partings, repeat=2):
                both = cut(pond, first, second)
                self.assertIn(both, partings)
                for x, y in pairs_in_order(pond):
                    expected = is_together(first, x, y) and is_together(second, x, y)
                    self.assertIs(is_together(both, x, y), expected)
                over = [
                    parting for parting in partings
                    if lies_within(first, parting) and lies_within(second, parting)
                ]
                joined = chain(pond, first, second)
                self.assertIn(joined, over)
                self.assertTrue(all(lies_within(joined, parting) for parting in over))


class TestHedges(PromiseCase):
    def test_hedges(self):
        self.gives([("f", "e"), ("f", "b"), ("a", "d"), ("e", "b")], hedges, SIX, CROSSING)
        self.gives([], hedges, pond=SIX, parting=SINGLES)
        self.gives(
            [("f", "a"), ("f", "c"), ("a", "e"), ("e", "b"), ("b", "d"), ("d", "c")], hedges, SIX, ONE
        )
        self.gives([], hedges, ALONE, (("a",),))
        self.gives([("b", "a")], hedges, Pond(["b", "a"]), (("b", "a"),))
        self.gives(
            [("f", "c"), ("a", "e"), ("b", "d")], hedges, SIX, (("f", "c"), ("a", "e"), ("b", "d"))
        )
        self.assertEqual(len(hedges(TEN, (TEN.names,))), 10)
        self.refuses(BadParting, {}, hedges, SIX, NO_PARTING)

    def test_by_their_words(self):
        for pond in small_ponds(5):
            for parting in all_partings(pond):
                found = [
                    (lot, next_in_field(pond, parting, lot))
                    for field in parting if len(field) > 1 for lot in field
                ]
                expected = [
                    (x, y) for x, y in pairs_in_order(pond) if (x, y) in found or (y, x) in found
                ]
                self.assertEqual(hedges(pond, parting), expected)

    def test_from_hedges(self):
        expected = (("f", "e", "b"), ("a", "d"), ("c",))
        self.gives(expected, from_hedges, SIX, [("b", "e"), ["d", "a"], ("f", "b")])
        self.gives(expected, from_hedges, SIX, (["e", "f"], ["c", "c"], ["a", "d"], ["b", "e"]))
        self.gives(SINGLES, from_hedges, SIX, [])
        self.gives(SINGLES, from_hedges, SIX, [("a", "a"), ("a", "a")])
        self.gives(ONE, from_hedges, SIX, [("f", "a"), ("c", "d"), ("b", "e"), ("e", "a"), ("d", "b")])
        self.gives((("a",),), from_hedges, pond=ALONE, pairs=[("a", "a")])
        self.gives(
            (("f", "a", "e", "d", "c"), ("b",)), from_hedges, SIX,
            [("f", "c"), ("a", "d"), ("e", "c"), ("d", "f"), ("d", "f")],
        )

    def test_faults_of_from_hedges(self):
        self.refuses(UnknownLot, {"name": "x"}, from_hedges, SIX, [("a", "x"), ("y", "a")])
        self.refuses(UnknownLot, {"name": "x"}, from_hedges, SIX, [["x", "y"]])
        self.refuses(UnknownLot, {"name": "y"}, from_hedges, SIX, [("a", "a"), ("y", "y"), ("x", "a")])

    def test_from_hedges_gives_the_parting_back(self):
        for pond in small_ponds(5):
            for parting in all_partings(pond):
                self.assertEqual(from_hedges(pond, hedges(pond, parting)), parting)


class TestRestrictAndTakeOut(PromiseCase):
    def test_restrict(self):
        self.gives((("d", "a"), ("e", "f")), restrict, SIX, CROSSING, ["d", "e", "a", "f"])
        self.gives((("c",),), restrict, SIX, CROSSING, ("c",))
        self.gives((("d",), ("b",), ("c",)), restrict, pond=SIX, parting=CROSSING, lots=["d", "b", "c"])
        self.gives(CROSSING, restrict, SIX, CROSSING, list(SIX.names))
        self.gives((("a",),), restrict, ALONE, (("a",),), ["a"])

    def test_restrict_by_its_words(self):
        pond = Pond(["d", "c", "b", "a"])
        for parting in all_partings(pond):
            for many in range(1, 5):
                for lots in itertools.permutations(pond.names, many):
                    part = sub_pond(pond, lots)
                    found = restrict(pond, parting, lots)
                    self.assertIn(found, all_partings(part))
                    for x, y in pairs_in_order(part):
                        self.assertIs(is_together(found, x, y), is_together(parting, x, y))

    def test_faults_of_restrict(self):
        self.refuses(BadParting, {}, restrict, SIX, NO_PARTING, [])
        self.refuses(BadParting, {}, restrict, SIX, NO_PARTING, ["x"])
        self.refuses(BadSize, {"size": 0}, restrict, SIX, CROSSING, [])
        self.refuses(UnknownLot, {"name": "x"}, restrict, SIX, CROSSING, ["a", "x", "a"])
        self.refuses(RepeatedName, {"name": "a"}, restrict, SIX, CROSSING, ["a", "a", "x"])

    def test_take_out(self):
        self.gives((("f", "b"), ("a", "d"), ("e",), ("c",)), take_out, SIX, CROSSING, ["e"])
        self.gives((("f", "b"), ("a",), ("e",), ("d",), ("c",)), take_out, SIX, CROSSING, ("d", "e"))
        self.gives((("f", "e"), ("a", "d"), ("b",), ("c",)), take_out, SIX, CROSSING, ["b", "c", "b"])
        self.gives((("f", "a", "e", "b"), ("d",), ("c",)), take_out, SIX, ONE, ["c", "d"])
        self.gives(CROSSING, take_out, SIX, CROSSING, [])
        self.gives(SINGLES, take_out, pond=SIX, parting=ONE, lots=SIX.names)
        self.gives((("a",),), take_out, ALONE, (("a",),), ["a", "a"])

    def test_faults_of_take_out(self):
        self.refuses(BadParting, {}, take_out, SIX, NO_PARTING, ["x"])
        self.refuses(UnknownLot, {"name": "x"}, take_out, SIX, CROSSING, ["a", "x", "y"])
        self.refuses(UnknownLot, {"name": "y"}, take_out, SIX, CROSSING, ["a", "a", "y", "x"])


class TestHedgesOfUncrossedPartings(PromiseCase):
    def test_no_two_hedges_cross(self):
        for pond in small_ponds(6):
            for parting in all_partings(pond):
                if first_crossing(pond, parting) is None:
                    for one, two in itertools.combinations(hedges(pond, parting), 2):
                        self.assertIsNone(groups_cross(pond, one, two))


if __name__ == "__main__":
    unittest.main()
