"""smalls.py: points 17, 29, 30 and 31."""

import itertools
import unittest

from hedgejoin.deeds import join
from hedgejoin.errors import (
    AtStrife, BadSplit, CrossedField, NotWithin, SameField, UnknownLot,
)
from hedgejoin.mirror import mirror
from hedgejoin.ponds import Pond
from hedgejoin.smalls import (
    deed_small, inner_paths, small_deed, small_ponds, split_world, unite_world,
)
from tests.helpers import (
    ALONE, HIGH, LOW, SINGLES, SIX, TEN, TEN_SINGLES, TEN_WORLD, PromiseCase, all_roads, deeds_from,
    inner_by_words, lies_within, small_by_words, smalls_by_words, uncrossed_partings,
    worlds_between,
)

FIVE = Pond(["a", "b", "c", "d", "e"], strifes=[("a", "e")])
LOWER = (("a",), ("b", "d"), ("c",), ("e",))
UPPER = (("a", "b", "c", "d"), ("e",))
SMALLS = [("a", "b"), ("b", "c"), ("e",)]
MIDDLE = (("a", "b", "d"), ("c",), ("e",))
FIVE_SINGLES = (("a",), ("b",), ("c",), ("d",), ("e",))
ASIDE = (("f", "a"), ("e",), ("b",), ("d",), ("c",))
NO_WORLD = (("a",),)


class TestSmallPonds(PromiseCase):
    def test_inner_paths(self):
        self.gives((("a", "d"), ("b", "c"), ("e",)), inner_paths, FIVE, LOWER, UPPER)
        self.gives((("f", "a"), ("e",), ("b",), ("d", "c")), inner_paths, SIX, LOW, HIGH)
        paths = (("f", "a", "e"), ("b", "d", "c"))
        self.gives(paths, inner_paths, pond=SIX, lower=SINGLES, upper=HIGH)
        self.gives((TEN.names,), inner_paths, TEN, TEN_SINGLES, (TEN.names,))
        paths = (("j", "g"), ("i", "h"), ("f", "e", "a"), ("d", "c", "b"))
        self.gives(paths, inner_paths, TEN, TEN_WORLD, (TEN.names,))
        self.gives((("a",),), inner_paths, ALONE, (("a",),), (("a",),))

    def test_small_ponds(self):
        self.gives(SMALLS, small_ponds, FIVE, LOWER, UPPER)
        smalls = [("f", "a"), ("f",), ("b",), ("b", "c")]
        self.gives(smalls, small_ponds, SIX, LOW, HIGH)
        smalls = [("f", "a", "e"), ("b", "d", "c")]
        self.gives(smalls, small_ponds, pond=SIX, lower=SINGLES, upper=HIGH)
        self.gives([TEN.names], small_ponds, TEN, TEN_SINGLES, (TEN.names,))
        smalls = [("j", "i"), ("i", "h"), ("j", "e", "d"), ("d", "c", "b")]
        self.gives(smalls, small_ponds, TEN, TEN_WORLD, (TEN.names,))
        self.gives([("a",)], small_ponds, ALONE, (("a",),), (("a",),))

    def test_lower_equal_to_upper(self):
        self.gives(SINGLES, inner_paths, SIX, LOW, LOW)
        smalls = [("f",), ("a",), ("f",), ("b",), ("b",), ("c",)]
        self.gives(smalls, small_ponds, SIX, LOW, LOW)
        self.gives([("j",)] * 10, small_ponds, TEN, (TEN.names,), (TEN.names,))
        self.gives([(lot,) for lot in TEN.names], small_ponds, TEN, TEN_SINGLES, TEN_SINGLES)

    def test_faults(self):
        for entry in (inner_paths, small_ponds):
            self.refuses_bad_worlds(entry, [SIX], [NO_WORLD])
            self.refuses_bad_worlds(entry, [SIX, LOW])
            self.refuses(NotWithin, {"pair": ("f", "a")}, entry, SIX, HIGH, LOW)
            self.refuses(NotWithin, {"pair": ("f", "e")}, entry, SIX, LOW, ASIDE)

    def test_by_their_words(self):
        for pond, lower, upper in all_roads(5):
            self.assertEqual(inner_paths(pond, lower, upper), inner_by_words(pond, lower, upper))
            self.assertEqual(small_ponds(pond, lower, upper), smalls_by_words(pond, lower, upper))

    def test_inner_paths_are_the_mirror_if_upper_is_one_field(self):
        for pond, lower, upper in all_roads(5):
            paths = inner_paths(pond, lower, upper)
            self.assertIn(paths, uncrossed_partings(pond))
            if len(upper) == 1:
                self.assertEqual(paths, mirror(pond, lower))

    def test_each_small_pond_has_as_many_lots_as_its_path(self):
        for pond, lower, upper in all_roads(4):
            paths = inner_paths(pond, lower, upper)
            for path, lots in zip(paths, small_ponds(pond, lower, upper)):
                self.assertEqual(len(path), len(lots))
                holders = [[field for field in lower if lot in field][0][0] for lot in path]
                self.assertEqual(sorted(holders), sorted(lots))


class TestSplitting(PromiseCase):
    def test_split_world(self):
        smalls = [(("a", "b"),), (("b",), ("c",)), (("e",),)]
        self.gives(smalls, split_world, FIVE, LOWER, UPPER, MIDDLE)
        smalls = [(("a",), ("b",)), (("b",), ("c",)), (("e",),)]
        self.gives(smalls, split_world, FIVE, LOWER, UPPER, LOWER)
        smalls = [(("a", "b"),), (("b", "c"),), (("e",),)]
        self.gives(smalls, split_world, pond=FIVE, lower=LOWER, upper=UPPER, world=UPPER)
        self.gives([(("f",),), (("a",),), (("f",),), (("b",),), (("b",),), (("c",),)],
                   split_world, SIX, LOW, LOW, LOW)
        self.gives([(("a",),)], split_world, ALONE, (("a",),), (("a",),), (("a",),))
        whole = (TEN.names,)
        self.gives([TEN_WORLD], split_world, TEN, TEN_SINGLES, whole, TEN_WORLD)
        smalls = [(("j",), ("i",)), (("i",), ("h",)), (("j",), ("e",), ("d",)),
                  (("d",), ("c",), ("b",))]
        self.gives(smalls, split_world, TEN, TEN_WORLD, whole, TEN_WORLD)

    def test_unite_world(self):
        smalls = [(("a", "b"),), (("b",), ("c",)), (("e",),)]
        self.gives(MIDDLE, unite_world, FIVE, LOWER, UPPER, smalls)
        self.gives(MIDDLE, unite_world, FIVE, LOWER, UPPER, tuple(smalls))
        smalls = [(("a", "b"),), (("b", "c"),), (("e",),)]
        self.gives(UPPER, unite_world, pond=FIVE, lower=LOWER, upper=UPPER, worlds=smalls)
        self.gives(LOW, unite_world, SIX, LOW, LOW, split_world(SIX, LOW, LOW, LOW))
        self.gives((("a",),), unite_world, ALONE, (("a",),), (("a",),), [(("a",),)])
        self.gives(TEN_WORLD, unite_world, TEN, TEN_SINGLES, (TEN.names,), [TEN_WORLD])

    def test_strifes_of_the_pond_are_none_of_the_small_ponds(self):
        # a and e are at strife, but the small pond of both has no strife of its own.
        upper = (("a", "b", "c", "d"), ("e",))
        self.gives(upper, unite_world, FIVE, FIVE_SINGLES, upper, [(("a", "b", "c", "d"),), (("e",),)])

    def test_faults_of_worlds(self):
        self.refuses_bad_worlds(split_world, [SIX], [NO_WORLD, NO_WORLD])
        self.refuses_bad_worlds(split_world, [SIX, LOW], [NO_WORLD])
        self.refuses_bad_worlds(split_world, [SIX, LOW, HIGH])
        self.refuses_bad_worlds(unite_world, [SIX], [NO_WORLD, []])
        self.refuses_bad_worlds(unite_world, [SIX, LOW], [[]])
        pair = {"pair": ("f", "a")}
        self.refuses(NotWithin, pair, split_world, SIX, HIGH, LOW, NO_WORLD)
        self.refuses(NotWithin, pair, unite_world, SIX, HIGH, LOW, [])

    def test_worlds_outside(self):
        self.refuses(NotWithin, {"pair": ("f", "e")}, split_world, SIX, LOW, HIGH, SINGLES)
        over_low = (("f", "e", "b", "d"), ("a",), ("c",))
        bare = SIX.bare()
        self.refuses(NotWithin, {"pair": ("f", "b")}, split_world, bare, LOW, HIGH, over_low)
        # Lower is not within this world, nor this world within upper: lower comes first.
        aside = (("f",), ("a",), ("e", "b"), ("d",), ("c",))
        self.refuses(NotWithin, {"pair": ("f", "e")}, split_world, SIX, LOW, HIGH, aside)
        self.refuses(NotWithin, {"pair": ("e", "b")}, split_world, SIX, SINGLES, HIGH, aside)

    def test_too_few_and_too_many(self):
        worlds = [(("a", "b"),), (("b", "c"),), (("e",),)]
        for place in range(3):
            told = {"place": place}
            self.refuses(BadSplit, told, unite_world, FIVE, LOWER, UPPER, worlds[:place])
            self.refuses(BadSplit, told, unite_world, FIVE, LOWER, UPPER, [()] * place)
        for many in (4, 5, 200):
            told = {"place": 3}
            self.refuses(BadSplit, told, unite_world, FIVE, LOWER, UPPER, [*worlds, *worlds][:4])
            self.refuses(BadSplit, told, unite_world, FIVE, LOWER, UPPER, [()] * many)

    def test_no_worlds_of_the_small_ponds(self):
        right = [(("a", "b"),), (("b", "c"),), (("e",),)]
        wrong = [(), ((),), (("b", "a"),), (("a",),), (("a", "b"), ()), (("b",), ("a",)), (("x",),),
                 (("a", "b"), ("e",)), (("e",),), (("a", "a"),), (("a", "b", "a"),), (("a", "e"),)]
        for parting in wrong:
            worlds = [parting, *right[1:]]
            self.refuses(BadSplit, {"place": 0}, unite_world, FIVE, LOWER, UPPER, worlds)
            worlds = [parting, (), ()]
            self.refuses(BadSplit, {"place": 0}, unite_world, FIVE, LOWER, UPPER, worlds)
        for parting in [*wrong, (("a", "b"),), (("b", "c", "d"),), (("c", "b"),), (("b", "d"), ("c",))]:
            worlds = [right[0], parting, ()]
            self.refuses(BadSplit, {"place": 1}, unite_world, FIVE, LOWER, UPPER, worlds)
        self.refuses(BadSplit, {"place": 2}, unite_world, FIVE, LOWER, UPPER, (*right[:2], ()))
        crossing = (("a", "c"), ("b", "d"))
        pond = FIVE.bare()
        self.refuses(
            BadSplit, {"place": 0}, unite_world, pond, FIVE_SINGLES, UPPER, [crossing, (("e",),)])

    def test_by_their_words(self):
        for pond, lower, upper in all_roads(4):
            smalls = smalls_by_words(pond, lower, upper)
            found = []
            for world in worlds_between(pond, lower, upper):
                split = [small_by_words(lots, world) for lots in smalls]
                self.assertEqual(split_world(pond, lower, upper, world), split)
                self.assertEqual(unite_world(pond, lower, upper, split), world)
                found.append(split)
            free = [uncrossed_partings(Pond(lots)) for lots in smalls]
            choices = [list(choice) for choice in itertools.product(*free)]
            self.assertEqual(sorted(found), sorted(choices))


class TestDeeds(PromiseCase):
    def test_deed_small(self):
        self.gives(0, deed_small, FIVE, LOWER, UPPER, LOWER, "d", "a")
        self.gives(1, deed_small, FIVE, LOWER, UPPER, LOWER, "c", "d")
        self.gives(1, deed_small, FIVE, LOWER, UPPER, MIDDLE, "a", "c")
        self.gives(0, deed_small, pond=FIVE, lower=FIVE_SINGLES, upper=UPPER, world=MIDDLE, x="c", y="d")
        self.gives(3, deed_small, SIX, LOW, HIGH, LOW, "c", "b")
        self.gives(0, deed_small, TEN, TEN_SINGLES, (TEN.names,), TEN_WORLD, "j", "g")
        self.gives(2, deed_small, TEN, TEN_WORLD, (TEN.names,), TEN_WORLD, "a", "f")

    def test_small_deed(self):
        self.gives(("a", "b"), small_deed, FIVE, LOWER, UPPER, LOWER, "d", "a")
        self.gives(("b", "c"), small_deed, FIVE, LOWER, UPPER, LOWER, "c", "d")
        self.gives(("b", "c"), small_deed, FIVE, LOWER, UPPER, MIDDLE, "a", "c")
        self.gives(("a", "c"), small_deed, pond=FIVE, lower=FIVE_SINGLES, upper=UPPER, world=MIDDLE,
                   x="c", y="d")
        self.gives(("b", "c"), small_deed, SIX, LOW, HIGH, LOW, "c", "b")
        self.gives(("j", "i"), small_deed, TEN, TEN_SINGLES, (TEN.names,), TEN_WORLD, "g", "j")
        self.gives(("j", "d"), small_deed, TEN, TEN_WORLD, (TEN.names,), TEN_WORLD, "a", "f")

    def test_faults_of_worlds(self):
        for entry in (deed_small, small_deed):
            self.refuses_bad_worlds(entry, [SIX], [NO_WORLD, NO_WORLD, "x", "x"])
            self.refuses_bad_worlds(entry, [SIX, LOW], [NO_WORLD, "x", "x"])
            self.refuses_bad_worlds(entry, [SIX, LOW, HIGH], ["x", "x"])
            pair = {"pair": ("f", "a")}
            self.refuses(NotWithin, pair, entry, SIX, HIGH, LOW, NO_WORLD, "x", "x")
            pair = {"pair": ("f", "e")}
            self.refuses(NotWithin, pair, entry, SIX, LOW, HIGH, SINGLES, "x", "x")
            aside = (("f",), ("a",), ("e", "b"), ("d",), ("c",))
            self.refuses(NotWithin, pair, entry, SIX, LOW, HIGH, aside, "x", "x")
            pair = {"pair": ("e", "b")}
            self.refuses(NotWithin, pair, entry, SIX, SINGLES, HIGH, aside, "x", "x")

    def test_faults_of_deeds(self):
        for entry in (deed_small, small_deed):
            self.refuses(UnknownLot, {"name": "x"}, entry, SIX, LOW, HIGH, LOW, "x", "y")
            self.refuses(UnknownLot, {"name": "y"}, entry, SIX, LOW, HIGH, LOW, "a", "y")
            self.refuses(SameField, {"pair": ("e", "f")}, entry, SIX, LOW, HIGH, LOW, "e", "f")
            self.refuses(SameField, {"pair": ("a", "a")}, entry, SIX, LOW, HIGH, LOW, "a", "a")
            # These deeds would not stay within upper either, but they do not stand.
            self.refuses(CrossedField, {"field": ("f", "e")}, entry, SIX, LOW, HIGH, LOW, "a", "b")
            self.refuses(AtStrife, {"pair": ("f", "c")}, entry, SIX, LOW, HIGH, LOW, "c", "e")
            self.refuses(AtStrife, {"pair": ("e", "d")}, entry, SIX, LOW, HIGH, LOW, "b", "f")

    def test_deeds_that_do_not_stay_within_upper(self):
        bare = SIX.bare()
        for entry in (deed_small, small_deed):
            self.refuses(NotWithin, {"pair": ("f", "b")}, entry, bare, LOW, HIGH, LOW, "b", "e")
            self.refuses(NotWithin, {"pair": ("f", "c")}, entry, bare, LOW, HIGH, LOW, "c", "e")
            self.refuses(NotWithin, {"pair": ("f", "b")}, entry, bare, HIGH, HIGH, HIGH, "c", "a")
            self.refuses(NotWithin, {"pair": ("f", "a")}, entry, SIX, LOW, LOW, LOW, "a", "e")
            self.refuses(NotWithin, {"pair": ("a", "b")}, entry, FIVE, FIVE_SINGLES, FIVE_SINGLES,
                         FIVE_SINGLES, "b", "a")

    def test_by_their_words(self):
        for pond, lower, upper in all_roads(4):
            smalls = smalls_by_words(pond, lower, upper)
            for world in worlds_between(pond, lower, upper):
                for (x, y), after in deeds_from(pond, world):
                    if not lies_within(after, upper):
                        continue
                    one = [field for field in world if x in field][0]
                    two = [field for field in world if y in field][0]
                    having = [
                        index for index, lots in enumerate(smalls)
                        if any(lot in one for lot in lots) and any(lot in two for lot in lots)
                    ]
                    self.assertEqual([deed_small(pond, lower, upper, world, x, y)], having)
                    small = Pond(smalls[having[0]])
                    split = split_world(pond, lower, upper, world)
                    deed = small_deed(pond, lower, upper, world, one[-1], two[-1])
                    joined = [
                        field[0] for field in split[having[0]] if field[0] in one + two
                    ]
                    self.assertEqual(deed, tuple(joined))
                    split[having[0]] = join(small, split[having[0]], *deed)
                    self.assertEqual(split_world(pond, lower, upper, after), split)


if __name__ == "__main__":
    unittest.main()
