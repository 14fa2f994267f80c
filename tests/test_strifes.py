"""strifes.py: points 5, 19, 20, 26 and 39."""

import itertools
import unittest

from hedgejoin.ends import ends, fewest_end
from hedgejoin.errors import (
    AtStrife, BadParting, BadSize, Crossing, NoStrife, SameLot, TooMany, UnknownLot,
)
from hedgejoin.partings import is_world
from hedgejoin.ponds import Pond
from hedgejoin.roads import history
from hedgejoin.rows import trace
from hedgejoin.strifes import (
    core_strifes, costly_deeds, end_counts, idle_strifes, is_idle_paper, is_lift, least_lift,
    lifted, live_strifes, reach_number, row_counts, thrifty_row,
)
from tests.helpers import (
    ALONE, HUGE, LOW, ONLY, SINGLES, SIX, TEN, TEN_SINGLES, TEN_WORLD, WHOLE, WITH_STRIFES,
    PromiseCase, all_cases, all_partings, all_worlds, by_code, closing_by_words, deeds_from,
    is_together, lies_within, over, pairs_in_order, rows_between, turned,
)

TWO = Pond(["b", "a"], strifes=[("a", "b")])
TWO_SINGLES = (("b",), ("a",))
# The example of point 39: the greedy end has 3 fields where 2 are possible.
FOUR = Pond(["a", "b", "c", "d"], strifes=[("a", "b"), ("c", "d")])
FOUR_SINGLES = (("a",), ("b",), ("c",), ("d",))
ACROSS = (("a", "c"), ("b",), ("d",))
FIVE = Pond(["c", "a", "e", "b", "d"], strifes=[("c", "d"), ("a", "b"), ("b", "d")])
FIVE_SINGLES = (("c",), ("a",), ("e",), ("b",), ("d",))
ALL_STRIFES = Pond(TEN.names, strifes=pairs_in_order(TEN))
# Each start of NESTED in which a and c are one field brings b, d together with a, c.
NESTED = Pond(["a", "b", "c", "d"], strifes=[("a", "b"), ("b", "d"), ("a", "d")])
MANY = [*WITH_STRIFES, NESTED, Pond(["c", "a", "e", "b", "d"], strifes=[("c", "e"), ("a", "b"),
                                                                       ("e", "d"), ("a", "d")])]


def cases(most):
    """Each of the ponds with strifes, with each of its worlds."""
    return [
        (pond, world) for pond in MANY if len(pond.names) <= most for world in all_worlds(pond)
    ]


def without(pond, strifes):
    """The same pond with fewer strifes."""
    return Pond(pond.names, strifes=[pair for pair in pond.strifes if pair not in strifes])


def strifes_together(pond, parting):
    return [pair for pair in pond.strifes if is_together(parting, *pair)]


def worlds_from(pond, start):
    return [world for world in all_worlds(pond) if lies_within(start, world)]


def others_in(pond, start, strife):
    """The strifes that make this one idle."""
    united = closing_by_words(pond, [*start, strife])
    return united, [pair for pair in strifes_together(pond, united) if pair != strife]


class TestStrifes(PromiseCase):
    def test_lifted(self):
        self.gives([], lifted, FOUR, ACROSS)
        self.gives([("a", "b")], lifted, FOUR, (("a", "b"), ("c",), ("d",)))
        self.gives([("a", "b"), ("c", "d")], lifted, pond=FOUR, parting=(("a", "c"), ("b", "d")))
        self.gives([], lifted, ALONE, ONLY)
        self.gives(pairs_in_order(TEN), lifted, ALL_STRIFES, WHOLE)
        self.gives([("j", "f"), ("i", "g"), ("d", "a")], lifted, ALL_STRIFES, TEN_WORLD)
        for bad in ((), (("a", "c"), ("d", "b")), (("a",), ("b", "c"))):
            self.refuses(BadParting, {}, lifted, FOUR, bad)

    def test_lifted_by_its_words(self):
        for pond in MANY:
            for parting in all_partings(pond):
                expected = strifes_together(pond, closing_by_words(pond, parting))
                found = lifted(pond, parting)
                self.assertEqual(found, expected)
                # These must be lifted before a world can be over the parting, and they suffice.
                free = without(pond, found)
                self.assertTrue(is_world(free, closing_by_words(pond, parting)))
                for pair in found:
                    short = without(pond, [other for other in found if other != pair])
                    self.assertFalse(
                        any(lies_within(parting, world) for world in all_worlds(short))
                    )

    def test_idle_and_live(self):
        self.gives([], idle_strifes, FOUR, FOUR_SINGLES)
        live = [
            (("a", "b"), (("a", "b"), ("c",), ("d",))), (("c", "d"), (("a",), ("b",), ("c", "d"))),
        ]
        self.gives(live, live_strifes, pond=FOUR, start=FOUR_SINGLES)
        # If a and c are one field, b and d can come together only with them.
        start = (("a", "c"), ("b",), ("d",))
        self.gives([(("b", "d"), ("a", "b"))], idle_strifes, pond=NESTED, start=start)
        live = [
            (("a", "b"), (("a", "b", "c"), ("d",))), (("a", "d"), (("a", "c", "d"), ("b",))),
        ]
        self.gives(live, live_strifes, NESTED, start)
        start = (("a", "d"), ("b", "c"))
        both = [(("a", "b"), ("c", "d")), (("c", "d"), ("a", "b"))]
        self.gives(both, idle_strifes, FOUR, start)
        self.gives([], live_strifes, FOUR, start)
        for entry in (idle_strifes, live_strifes):
            self.gives([], entry, ALONE, ONLY)
            self.gives([], entry, TEN, TEN_WORLD)
            self.refuses_bad_worlds(entry, [SIX])
        self.gives([(("b", "a"), (("b", "a"),))], live_strifes, TWO, TWO_SINGLES)
        self.gives([], idle_strifes, ALL_STRIFES, TEN_SINGLES)
        self.assertEqual(len(live_strifes(ALL_STRIFES, TEN_SINGLES)), 45)

    def test_idle_and_live_by_their_words(self):
        for pond, start in cases(5):
            idle, live = [], []
            for strife in pond.strifes:
                united, others = others_in(pond, start, strife)
                if others:
                    idle.append((strife, others[0]))
                else:
                    live.append((strife, united))
            self.assertEqual(idle_strifes(pond, start), idle)
            self.assertEqual(live_strifes(pond, start), live)

    def test_what_comes_when_one_strife_is_lifted(self):
        for pond, start in cases(5):
            for strife, _ in idle_strifes(pond, start):
                free = without(pond, [strife])
                self.assertEqual(worlds_from(free, start), worlds_from(pond, start))
            for strife, united in live_strifes(pond, start):
                free = without(pond, [strife])
                self.assertIn(united, worlds_from(free, start))
                self.assertNotIn(united, worlds_from(pond, start))

    def test_is_idle_paper(self):
        start = (("a", "c"), ("b",), ("d",))
        for strife in (("b", "d"), ["d", "b"]):
            for other in (("a", "b"), ["b", "a"], ("a", "d"), ("d", "a")):
                self.gives(True, is_idle_paper, NESTED, start, strife, other)
            for other in (("b", "d"), ("d", "b"), ("a", "c"), ("a", "x"), ("x", "a"), ("x", "x"),
                          ("a", "a"), ("b", "b"), ["d", "b"], ("", "")):
                self.gives(False, is_idle_paper, NESTED, start, strife, other)
        self.gives(True, is_idle_paper, pond=NESTED, start=start, strife=("b", "d"), other=("a", "b"))
        # A live strife has no paper, whatever the other one is.
        for other in pairs_in_order(NESTED):
            self.gives(False, is_idle_paper, NESTED, start, ("a", "b"), other)
        # A strife that is not together in M.
        self.gives(False, is_idle_paper, FOUR, FOUR_SINGLES, ("a", "b"), ("c", "d"))

    def test_faults_of_is_idle_paper(self):
        good = ("e", "d")
        self.refuses_bad_worlds(is_idle_paper, [SIX], [("x", "y"), good])
        entry = is_idle_paper
        self.refuses(UnknownLot, {"name": "x"}, entry, SIX, SINGLES, ("x", "y"), good)
        self.refuses(UnknownLot, {"name": "y"}, entry, SIX, SINGLES, ("a", "y"), good)
        self.refuses(UnknownLot, {"name": "x"}, entry, SIX, SINGLES, ["x", "x"], good)
        self.refuses(SameLot, {"name": "a"}, entry, SIX, SINGLES, ("a", "a"), ("x", "x"))
        self.refuses(NoStrife, {"pair": ("a", "e")}, entry, SIX, SINGLES, ("a", "e"), good)
        self.refuses(NoStrife, {"pair": ("a", "e")}, entry, SIX, SINGLES, ["e", "a"], ("x", "x"))
        # Together in the world, and no strife: only the latter is a fault.
        self.refuses(NoStrife, {"pair": ("f", "e")}, entry, SIX, LOW, ("e", "f"), good)

    def test_is_idle_paper_by_its_words(self):
        for pond, start in cases(5):
            for strife in pond.strifes:
                _, others = others_in(pond, start, strife)
                for pair in pairs_in_order(pond):
                    right = pair in others
                    self.assertIs(is_idle_paper(pond, start, strife, pair), right)
                    self.assertIs(is_idle_paper(pond, start, turned(strife), turned(pair)), right)

    def test_core_strifes(self):
        self.gives([("a", "b"), ("c", "d")], core_strifes, FOUR, FOUR_SINGLES)
        # Idle because of one another: the first one is lifted, then the other one is live.
        self.gives([("c", "d")], core_strifes, pond=FOUR, start=(("a", "d"), ("b", "c")))
        start = (("a", "c"), ("b",), ("d",))
        self.gives([("a", "b"), ("a", "d")], core_strifes, NESTED, start)
        self.gives([], core_strifes, ALONE, ONLY)
        self.gives([], core_strifes, TEN, TEN_WORLD)
        self.gives(pairs_in_order(TEN), core_strifes, ALL_STRIFES, TEN_SINGLES)
        self.refuses_bad_worlds(core_strifes, [SIX])

    def test_core_strifes_by_their_words(self):
        for pond, start in cases(5):
            rest = pond
            for strife in pond.strifes:
                if others_in(rest, start, strife)[1]:
                    rest = without(rest, [strife])
            core = core_strifes(pond, start)
            self.assertEqual(core, list(rest.strifes))
            self.assertEqual(worlds_from(rest, start), worlds_from(pond, start))
            self.assertEqual([strife for strife, _ in live_strifes(rest, start)], core)


class TestLifts(PromiseCase):
    def test_least_lift(self):
        self.gives(((), (("a", "d"), ("b", "c"))), least_lift, FOUR, FOUR_SINGLES, fields=2)
        self.gives(((), FOUR_SINGLES), least_lift, FOUR, FOUR_SINGLES, fields=4)
        both = (("a", "b"), ("c", "d"))
        self.gives((both, (("a", "b", "c", "d"),)), least_lift, FOUR, FOUR_SINGLES, fields=1)
        self.gives(((), ACROSS), least_lift, pond=FOUR, start=FOUR_SINGLES, fields=3)
        self.gives(((("a", "b"),), (("a", "b", "c"), ("d",))), least_lift, FOUR, ACROSS, fields=2)
        self.gives(((), ONLY), least_lift, ALONE, ONLY, fields=1)
        self.gives(((("b", "a"),), (("b", "a"),)), least_lift, TWO, TWO_SINGLES, fields=1)
        self.gives(((), TWO_SINGLES), least_lift, TWO, TWO_SINGLES, fields=2)

    def test_least_lift_by_its_words(self):
        for pond, start in cases(5):
            for fields in range(1, len(start) + 1):
                found = [one for one in by_code(pond, over(pond, start)) if len(one) == fields]
                fewest = min(len(strifes_together(pond, one)) for one in found)
                best = [one for one in found if len(strifes_together(pond, one)) == fewest][0]
                strifes, parting = least_lift(pond, start, fields=fields)
                self.assertEqual(parting, best)
                self.assertEqual(strifes, tuple(strifes_together(pond, best)))
                self.assertTrue(is_lift(pond, start, strifes, fields=fields))
                comes = any(len(world) == fields for world in worlds_from(pond, start))
                self.assertIs(strifes == (), comes)
                for fewer in itertools.combinations(pond.strifes, max(0, len(strifes) - 1)):
                    if strifes:
                        self.assertFalse(is_lift(pond, start, fewer, fields=fields))

    def test_is_lift(self):
        for strifes in ([], (), [("a", "c")], [("c", "d"), ("d", "c"), ["a", "d"]]):
            self.gives(False, is_lift, FOUR, FOUR_SINGLES, strifes, fields=1)
            self.gives(True, is_lift, FOUR, FOUR_SINGLES, strifes, fields=2)
            self.gives(True, is_lift, FOUR, FOUR_SINGLES, strifes, fields=4)
        both = [("b", "a"), ["c", "d"], ("a", "b"), ("a", "c")]
        self.gives(True, is_lift, FOUR, FOUR_SINGLES, both, fields=1)
        self.gives(True, is_lift, pond=FOUR, start=FOUR_SINGLES, strifes=both * 50, fields=1)
        self.gives(True, is_lift, ALONE, ONLY, [], fields=1)
        self.gives(False, is_lift, TWO, TWO_SINGLES, [], fields=1)
        self.gives(True, is_lift, TWO, TWO_SINGLES, [("a", "b")], fields=1)
        self.gives(False, is_lift, FOUR, ACROSS, [], fields=2)
        self.gives(True, is_lift, FOUR, ACROSS, [("d", "c")], fields=2)

    def test_is_lift_by_its_words(self):
        for pond, start in cases(4):
            for many in range(len(pond.strifes) + 1):
                for strifes in itertools.combinations(pond.strifes, many):
                    worlds = worlds_from(without(pond, strifes), start)
                    for fields in range(1, len(start) + 1):
                        right = any(len(world) == fields for world in worlds)
                        self.assertIs(is_lift(pond, start, strifes, fields=fields), right)

    def test_fields(self):
        for fields in (0, -1, 5, 6, HUGE, -HUGE):
            attributes = {"size": fields}
            self.refuses(BadSize, attributes, least_lift, FOUR, FOUR_SINGLES, fields=fields)
            self.refuses(BadSize, attributes, is_lift, FOUR, FOUR_SINGLES, [], fields=fields)
        for fields in (0, 4):
            self.refuses(BadSize, {"size": fields}, least_lift, FOUR, ACROSS, fields=fields)
            self.refuses(BadSize, {"size": fields}, is_lift, FOUR, ACROSS, [("a", "b")], fields=fields)
        for fields in (0, 2):
            self.refuses(BadSize, {"size": fields}, least_lift, ALONE, ONLY, fields=fields)
            self.refuses(BadSize, {"size": fields}, is_lift, ALONE, ONLY, [], fields=fields)

    def test_faults(self):
        many = {"count": 6, "limit": 5}
        for start in (SINGLES, ()):
            self.refuses(TooMany, many, least_lift, SIX, start, fields=0)
            self.refuses(TooMany, many, is_lift, SIX, start, [("x", "y")], fields=0)
        bad = (("c",), ("a", "e", "b"), ("d",))
        self.refuses(AtStrife, {"pair": ("a", "b")}, least_lift, FIVE, bad, fields=0)
        self.refuses(AtStrife, {"pair": ("a", "b")}, is_lift, FIVE, bad, [("x", "y")], fields=0)
        self.refuses(BadParting, {}, least_lift, FIVE, (), fields=0)
        self.refuses(BadParting, {}, is_lift, FIVE, (), [("x", "y")], fields=0)
        rows = [
            ([("x", "y")], UnknownLot, {"name": "x"}),
            ([("a", "y"), ("x", "x")], UnknownLot, {"name": "y"}),
            ([("x", "x")], UnknownLot, {"name": "x"}),
            ([("a", "b"), ("e", "c"), ["c", "c"], ("x", "y")], SameLot, {"name": "c"}),
        ]
        for row, kind, attributes in rows:
            for fields in (0, 1, 6):
                self.refuses(kind, attributes, is_lift, FIVE, FIVE_SINGLES, row, fields=fields)


class TestReach(PromiseCase):
    def test_reach_number(self):
        self.gives(2, reach_number, FOUR, FOUR_SINGLES)
        self.gives(3, reach_number, pond=FOUR, start=ACROSS)
        self.gives(1, reach_number, FOUR.bare(), FOUR_SINGLES)
        self.gives(1, reach_number, ALONE, ONLY)
        self.gives(2, reach_number, TWO, TWO_SINGLES)

    def test_costly_deeds(self):
        self.gives([(("a", "c"), 3), (("b", "d"), 3)], costly_deeds, FOUR, FOUR_SINGLES)
        self.gives([], costly_deeds, pond=FOUR, world=(("a", "d"), ("b",), ("c",)))
        self.gives([], costly_deeds, ALONE, ONLY)
        self.gives([], costly_deeds, FIVE.bare(), FIVE_SINGLES)

    def test_thrifty_row(self):
        self.gives([("a", "d"), ("b", "c")], thrifty_row, FOUR, FOUR_SINGLES)
        self.gives([], thrifty_row, pond=FOUR, start=ACROSS)
        self.gives([], thrifty_row, ALONE, ONLY)

    def test_end_counts(self):
        found = [(ACROSS, 1), ((("a", "d"), ("b", "c")), 2), ((("a",), ("b", "d"), ("c",)), 1)]
        self.gives(found, end_counts, FOUR, FOUR_SINGLES)
        self.gives([(ACROSS, 1)], end_counts, pond=FOUR, start=ACROSS)
        self.gives([((FIVE.names,), 125)], end_counts, FIVE.bare(), FIVE_SINGLES)
        self.gives([(ONLY, 1)], end_counts, ALONE, ONLY)

    def test_row_counts(self):
        self.gives([1, 4, 2], row_counts, FOUR, FOUR_SINGLES)
        self.gives([1], row_counts, pond=FOUR, start=ACROSS)
        self.gives([1, 1], row_counts, Pond(["a", "b"]), (("a",), ("b",)))
        self.gives([1], row_counts, ALONE, ONLY)
        self.gives([1], row_counts, TWO, TWO_SINGLES)

    def test_faults(self):
        bad = (("c",), ("a", "e", "b"), ("d",))
        for entry in (reach_number, costly_deeds, thrifty_row, end_counts, row_counts):
            self.refuses(TooMany, {"count": 6, "limit": 5}, entry, SIX, SINGLES)
            self.refuses(TooMany, {"count": 6, "limit": 5}, entry, SIX, ())
            self.refuses(TooMany, {"count": 10, "limit": 5}, entry, TEN, WHOLE)
            self.refuses(BadParting, {}, entry, FIVE, ())
            self.refuses(AtStrife, {"pair": ("a", "b")}, entry, FIVE, bad)
            crossed = (("c", "e"), ("a", "d"), ("b",))
            self.refuses(Crossing, {"lots": ("c", "a", "e", "d")}, entry, FIVE, crossed)

    def test_by_their_words(self):
        for pond, start in [*cases(5), *[case for case in all_cases(4) if not case[0].strifes]]:
            found = worlds_from(pond, start)
            least = min(len(world) for world in found)
            self.assertEqual(reach_number(pond, start), least)
            self.assertEqual(least, min(len(end) for end in ends(pond, start)))
            costly = []
            for deed, after in deeds_from(pond, start):
                number = min(len(world) for world in worlds_from(pond, after))
                if number > least:
                    costly.append((deed, number))
            self.assertEqual(costly_deeds(pond, start), costly)

    def test_thrifty_row_has_no_costly_deed(self):
        for pond, start in cases(5):
            row = thrifty_row(pond, start)
            end = fewest_end(pond, start)
            self.assertEqual(row, history(pond, start, end))
            worlds = trace(pond, start, row)
            self.assertEqual(worlds[-1], end)
            for world, deed in zip(worlds, row):
                self.assertNotIn(deed, [costly for costly, _ in costly_deeds(pond, world)])

    def test_counts_against_a_walk_over_all_histories(self):
        for pond, start in [*cases(4), (MANY[-1], FIVE_SINGLES), (FIVE, FIVE_SINGLES)]:
            counts = {start: 1}
            rows = []
            done = {}
            while counts:
                rows.append(sum(counts.values()))
                after_all = {}
                for world, many in counts.items():
                    stands = deeds_from(pond, world)
                    if not stands:
                        done[world] = done.get(world, 0) + many
                    for _, after in stands:
                        after_all[after] = after_all.get(after, 0) + many
                counts = after_all
            self.assertEqual(row_counts(pond, start), rows)
            self.assertEqual(end_counts(pond, start), [(end, done[end]) for end in by_code(pond, done)])

    def test_end_counts_by_all_rows(self):
        for end, many in end_counts(FIVE, FIVE_SINGLES):
            self.assertEqual(len(rows_between(FIVE, FIVE_SINGLES, end)), many)


if __name__ == "__main__":
    unittest.main()
