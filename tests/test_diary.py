"""diary.py: points 5, 17, 37, 40 and 44."""

import itertools
import random
import unittest

from hedgejoin.diary import Diary, least_run
from hedgejoin.errors import (
    AtStrife, BadParting, BadSize, Crossing, NoRun, OutOfRange, SameLot, TooMany, Ungranted,
    UnknownLot,
)
from hedgejoin.ponds import Pond
from tests.helpers import (
    ALONE, HUGE, ONLY, SINGLES, SIX, TEN, TEN_SINGLES, TEN_WORLD, WHOLE, PromiseCase, all_worlds,
    by_code, closing_by_words, is_together, lies_within, pairs_in_order, shown, turned,
)

FORTY = 10 ** 40
TWO = Pond(["b", "a"])
TWO_SINGLES = (("b",), ("a",))
TWO_WHOLE = (("b", "a"),)
THREE = Pond(["c", "a", "b"])
THREE_SINGLES = (("c",), ("a",), ("b",))
THREE_WHOLE = (("c", "a", "b"),)
FOUR = Pond(["c", "a", "d", "b"], strifes=[("a", "b")])
FOUR_SINGLES = (("c",), ("a",), ("d",), ("b",))
FIVE = Pond(["c", "a", "e", "b", "d"], strifes=[("c", "d"), ("a", "b")])
FIVE_SINGLES = (("c",), ("a",), ("e",), ("b",), ("d",))
CROSSED = (("c", "e"), ("a", "b"), ("d",))


def diary_of(pond, moments, *, start=None, sightings=(), bounds=()):
    """A diary with these sightings, and these bounds after its first moments."""
    diary = Diary(pond, moments, start=start)
    for moment, word, x, y in sightings:
        see = diary.see_together if word == "together" else diary.see_apart
        see(moment, x, y)
    for moment, (least, most) in enumerate(bounds):
        diary.gap(moment, least=least, most=most)
    return diary


def is_run_by_words(diary, worlds, sightings):
    """Point 44 as it stands, with these sightings instead of those of the diary."""
    if diary.start is not None and not lies_within(diary.start, worlds[0]):
        return False
    for (before, after), (least, most) in zip(itertools.pairwise(worlds), diary.bounds):
        many = len(before) - len(after)
        if not lies_within(before, after) or many < least or (most is not None and many > most):
            return False
    return all(
        is_together(worlds[moment], x, y) == (word == "together")
        for moment, word, x, y in sightings
    )


def all_lists(diary):
    """All lists of worlds, one for each moment, sorted by the codes of the worlds."""
    worlds = by_code(diary.pond, all_worlds(diary.pond))
    return [list(row) for row in itertools.product(worlds, repeat=diary.moments)]


def runs_with(diary, sightings):
    return [row for row in all_lists(diary) if is_run_by_words(diary, row, sightings)]


def some_diaries(most, many):
    """Diaries about small ponds with up to so many sightings, always the same ones."""
    rng = random.Random(44)
    kinds = [(ALONE, 8), (TWO, 5), (TWO.with_strife("a", "b"), 3), (THREE, 3), (THREE, 1), (FOUR, 3),
             (FOUR.bare(), 2)]
    return [random_diary(rng, *rng.choice(kinds), most) for _ in range(many)]


def random_diary(rng, pond, moments, most):
    start = rng.choice([None, *all_worlds(pond)])
    pairs = [pair for one in pairs_in_order(pond) for pair in (one, turned(one))]
    sightings = [
        (rng.randrange(moments), rng.choice(["together", "apart"]), *rng.choice(pairs))
        for _ in range(rng.randint(0, most) if pairs else 0)
    ]
    diary = diary_of(pond, moments, start=start, sightings=sightings)
    for moment in range(moments - 1):
        if rng.random() < 0.3:
            diary.gap(moment, least=rng.choice([0, 0, 1]), most=rng.choice([None, 0, 1, 1, 2]))
    return diary


class TestDiary(PromiseCase):
    def test_a_new_diary(self):
        diary = Diary(FIVE, 3)
        self.assertIs(diary.pond, FIVE)
        self.assertEqual(shown(diary.moments), shown(3))
        self.assertIsNone(diary.start)
        self.assertEqual(shown(diary.sightings), shown(()))
        self.assertEqual(shown(diary.bounds), shown(((0, None), (0, None))))
        self.assertEqual(shown(len(diary)), shown(0))
        self.assertEqual(list(diary), [])
        diary = Diary(pond=FIVE, moments=1, start=FIVE_SINGLES)
        self.assertEqual(shown(diary.start), shown(FIVE_SINGLES))
        self.assertEqual(shown(diary.bounds), shown(()))
        self.assertEqual(Diary(ALONE, 8, start=None).bounds, ((0, None),) * 7)
        self.assertEqual(Diary(ALONE, 8, start=ONLY).start, ONLY)

    def test_faults(self):
        for moments in (0, 1, 9, -FORTY):
            self.refuses(TooMany, {"count": 6, "limit": 5}, Diary, SIX, moments)
            self.refuses(TooMany, {"count": 6, "limit": 5}, Diary, SIX, moments, start=())
            self.refuses(TooMany, {"count": 10, "limit": 5}, Diary, TEN, moments, start=SINGLES)
        for moments in (0, -1, -FORTY, -HUGE):
            self.refuses(BadSize, {"size": moments}, Diary, FIVE, moments)
            self.refuses(BadSize, {"size": moments}, Diary, FIVE, moments, start=())
        for moments in (9, 10, FORTY, HUGE):
            self.refuses(TooMany, {"count": moments, "limit": 8}, Diary, FIVE, moments)
            self.refuses(TooMany, {"count": moments, "limit": 8}, Diary, FIVE, moments, start=CROSSED)
        self.refuses(BadParting, {}, Diary, FIVE, 1, start=())
        self.refuses(BadParting, {}, Diary, FIVE, 8, start=(("c", "d"), ("b", "a"), ("e",)))
        self.refuses(Crossing, {"lots": ("c", "a", "e", "b")}, Diary, FIVE, 2, start=CROSSED)
        strife = (("c", "d"), ("a",), ("e",), ("b",))
        self.refuses(AtStrife, {"pair": ("c", "d")}, Diary, FIVE, 2, start=strife)

    def test_sightings(self):
        diary = Diary(FIVE, 3)
        self.assertEqual(shown(diary.see_together(0, "e", "c")), shown(0))
        self.assertEqual(shown(diary.see_apart(moment=2, x="a", y="b")), shown(1))
        self.assertEqual(shown(diary.see_together(moment=0, x="e", y="c")), shown(2))
        self.assertEqual(shown(diary.see_apart(1, "d", "c")), shown(3))
        expected = ((0, "together", "e", "c"), (2, "apart", "a", "b"), (0, "together", "e", "c"),
                    (1, "apart", "d", "c"))
        self.assertEqual(shown(diary.sightings), shown(expected))
        self.assertEqual(shown(list(diary)), shown(list(expected)))
        self.assertEqual(shown(len(diary)), shown(4))
        self.assertEqual(list(diary), list(diary))

    def test_faults_of_sightings(self):
        for moments in (1, 3, 8):
            diary = Diary(FIVE, moments)
            for see in (diary.see_together, diary.see_apart):
                for moment in (-1, moments, moments + 1, FORTY, -FORTY, HUGE, -HUGE):
                    attributes = {"value": moment, "limit": moments}
                    self.refuses(OutOfRange, attributes, see, moment, "x", "x")
                self.refuses(UnknownLot, {"name": "x"}, see, 0, "x", "y")
                self.refuses(UnknownLot, {"name": "y"}, see, 0, "a", "y")
                self.refuses(UnknownLot, {"name": "x"}, see, moments - 1, "x", "x")
                self.refuses(SameLot, {"name": "a"}, see, moments - 1, "a", "a")
            self.assertEqual(diary.sightings, ())

    def test_twelve_sightings(self):
        diary = Diary(FIVE, 2)
        for index in range(12):
            self.assertEqual(diary.see_apart(index % 2, "a", "b"), index)
        for see in (diary.see_together, diary.see_apart):
            self.refuses(TooMany, {"count": 13, "limit": 12}, see, 0, "a", "b")
            self.refuses(OutOfRange, {"value": 2, "limit": 2}, see, 2, "a", "b")
            self.refuses(UnknownLot, {"name": "x"}, see, 1, "a", "x")
            self.refuses(SameLot, {"name": "e"}, see, 1, "e", "e")
        self.assertEqual(len(diary), 12)
        self.assertTrue(diary.fits())

    def test_gap(self):
        diary = Diary(FIVE, 4)
        self.assertIsNone(diary.gap(1, least=2, most=3))
        self.assertEqual(shown(diary.bounds), shown(((0, None), (2, 3), (0, None))))
        self.assertIsNone(diary.gap(moment=2, most=0))
        self.assertEqual(shown(diary.bounds), shown(((0, None), (2, 3), (0, 0))))
        # A bound that is left out gets its default, whatever it was before.
        diary.gap(1, least=1)
        self.assertEqual(shown(diary.bounds), shown(((0, None), (1, None), (0, 0))))
        diary.gap(1, most=20)
        diary.gap(0, least=20, most=None)
        self.assertEqual(shown(diary.bounds), shown(((20, None), (0, 20), (0, 0))))
        diary.gap(0)
        self.assertEqual(shown(diary.bounds), shown(((0, None), (0, 20), (0, 0))))

    def test_faults_of_gap(self):
        for moments in (1, 2, 8):
            diary = Diary(FIVE, moments)
            for moment in (-1, moments - 1, moments, FORTY, -FORTY, HUGE):
                attributes = {"value": moment, "limit": moments - 1}
                self.refuses(OutOfRange, attributes, diary.gap, moment)
                self.refuses(OutOfRange, attributes, diary.gap, moment, least=3, most=1)
        diary = Diary(ALONE, 1)
        self.refuses(OutOfRange, {"value": 0, "limit": 0}, diary.gap, 0, least=0)

    def test_least_greater_than_most(self):
        diary = Diary(THREE, 3)
        diary.gap(1, least=2, most=1)
        self.gives(False, diary.fits)
        self.gives(0, diary.count_runs)
        self.gives(-1, diary.first_unfit)
        self.refuses(NoRun, {}, diary.run)
        self.refuses(NoRun, {}, diary.least_wrong)
        self.gives(False, diary.is_wrong_set, [])
        diary.gap(1, least=1, most=1)
        self.gives(True, diary.fits)

    def test_is_run(self):
        diary = diary_of(FOUR, 3, sightings=[(1, "together", "d", "c"), (0, "apart", "c", "b")],
                         bounds=[(1, 1), (0, 1)])
        middle = (("c", "d"), ("a",), ("b",))
        after = (("c", "a", "d"), ("b",))
        for row in ([FOUR_SINGLES, middle, middle], [FOUR_SINGLES, middle, after]):
            self.gives(True, diary.is_run, row)
            self.gives(True, diary.is_run, tuple(row))
            self.gives(True, diary.is_run, worlds=row)
        wrong = [
            [], [FOUR_SINGLES], [FOUR_SINGLES, middle], [FOUR_SINGLES, middle, middle, middle],
            [FOUR_SINGLES, FOUR_SINGLES, middle], [middle, middle, middle], [FOUR_SINGLES, middle, FOUR_SINGLES],
            [FOUR_SINGLES, after, after], [FOUR_SINGLES, middle, (("c", "a", "d", "b"),)],
            [FOUR_SINGLES, (("c",), ("a", "d"), ("b",)), after], [(), middle, after],
            [FOUR_SINGLES, middle, ()], [FOUR_SINGLES, (("d", "c"), ("a",), ("b",)), middle],
            [FOUR_SINGLES, middle, (("c", "d"), ("a", "b"))], [FOUR_SINGLES, middle, (("x",),)],
            [FOUR_SINGLES, middle, (("c", "d"), ("a",), ("b",), ())], [FOUR_SINGLES] * 200,
        ]
        for row in wrong:
            self.gives(False, diary.is_run, row)
            self.gives(False, diary.is_run, tuple(row))

    def test_start(self):
        start = (("c", "d"), ("a",), ("b",))
        diary = Diary(FOUR, 2, start=start)
        # Any number of deeds may lie between the start and moment 0.
        self.gives(True, diary.is_run, [(("c", "d", "b"), ("a",)), (("c", "d", "b"), ("a",))])
        self.gives(False, diary.is_run, [FOUR_SINGLES, start])
        self.gives([(("c", "a", "d"), ("b",)), (("c", "d", "b"), ("a",)), start], diary.worlds_at, 0)
        self.gives([("c", "d")], diary.must, 1)
        diary.see_apart(0, "c", "d")
        self.gives(False, diary.fits)
        self.gives(0, diary.first_unfit)

    def test_runs(self):
        diary = diary_of(THREE, 3, start=THREE_SINGLES, sightings=[(2, "together", "b", "c"), (1, "apart", "a", "c")])
        pair = (("c", "b"), ("a",))
        self.gives(True, diary.fits)
        self.gives([pair, pair, THREE_WHOLE], diary.run)
        runs = runs_with(diary, diary.sightings)
        self.gives(len(runs), diary.count_runs)
        self.gives([pair, (("c",), ("a", "b")), THREE_SINGLES], diary.worlds_at, 0)
        self.gives([THREE_WHOLE, pair], diary.worlds_at, moment=2)
        self.gives([], diary.must, 0)
        self.gives([("c", "b"), ("a", "b")], diary.may, moment=1)
        self.gives([("c", "b")], diary.must, moment=2)
        self.gives(pairs_in_order(THREE), diary.may, 2)
        self.gives(None, diary.first_unfit)
        self.gives([], diary.least_wrong)

    def test_each_gap_counts_from_the_world_before_it(self):
        diary = diary_of(THREE, 3, bounds=[(1, 1), (0, 0)])
        first = (("c", "a"), ("b",))
        self.gives([first, THREE_WHOLE, THREE_WHOLE], diary.run)
        diary = diary_of(THREE, 4, start=THREE_SINGLES, bounds=[(1, None), (0, 0), (1, None)])
        self.gives([THREE_SINGLES, first, first, THREE_WHOLE], diary.run)
        self.gives(3, diary.count_runs)

    def test_no_run(self):
        diary = diary_of(THREE, 2, sightings=[
            (0, "apart", "a", "b"), (0, "together", "a", "c"), (1, "apart", "c", "a"), (1, "together", "a", "b"),
        ])
        self.gives(False, diary.fits)
        self.gives(0, diary.count_runs)
        self.refuses(NoRun, {}, diary.run)
        for moment in (0, 1):
            self.gives([], diary.worlds_at, moment)
            self.refuses(NoRun, {}, diary.must, moment)
            self.refuses(NoRun, {}, diary.may, moment)
        self.gives(2, diary.first_unfit)
        self.gives([1], diary.least_wrong)
        self.gives(True, diary.is_wrong_set, [1])
        self.gives(True, diary.is_wrong_set, (2,))
        self.gives(False, diary.is_wrong_set, indexes=[3, 0, 3])
        self.gives(False, diary.is_run, [THREE_SINGLES, THREE_SINGLES])

    def test_moments_out_of_range(self):
        fitting = Diary(FIVE, 3)
        broken = diary_of(FIVE, 3, sightings=[(0, "together", "a", "b")])
        for diary in (fitting, broken):
            for method in (diary.worlds_at, diary.must, diary.may):
                for moment in (-1, 3, 4, FORTY, -FORTY, HUGE, -HUGE):
                    self.refuses(OutOfRange, {"value": moment, "limit": 3}, method, moment)
        self.refuses(NoRun, {}, broken.must, 2)
        self.gives([], broken.worlds_at, 2)

    def test_one_and_two_lots(self):
        diary = Diary(ALONE, 8, start=ONLY)
        self.gives(1, diary.count_runs)
        self.gives([ONLY] * 8, diary.run)
        self.gives([], diary.must, 7)
        self.gives([], diary.may, 0)
        diary.gap(6, least=1)
        self.gives(False, diary.fits)
        # The two lots come together at one of nine times, or never.
        self.gives(9, Diary(TWO, 8).count_runs)
        self.gives([TWO_WHOLE] * 8, Diary(TWO, 8).run)
        self.gives([TWO_SINGLES] * 8, Diary(TWO.with_strife("a", "b"), 8).run)
        diary = Diary(TWO, 8)
        diary.see_apart(3, "a", "b")
        diary.see_together(5, "a", "b")
        self.gives(2, diary.count_runs)
        self.gives([TWO_SINGLES] * 4 + [TWO_WHOLE] * 4, diary.run)

    def test_five_lots_and_eight_moments(self):
        diary = Diary(FIVE.bare(), 8)
        # The number of rows of eight worlds of which each lies within the next: C(45, 4) / 5.
        self.gives(29799, diary.count_runs)
        self.gives([(FIVE.names,)] * 8, diary.run)
        diary = Diary(FIVE.bare(), 8, start=FIVE_SINGLES)
        for moment in range(7):
            diary.gap(moment, least=0, most=1)
        diary.see_together(7, "a", "b")
        diary.see_apart(0, "c", "a")
        diary.see_apart(6, "d", "b")
        diary.see_apart(6, "a", "b")
        diary.see_together(7, "c", "d")
        self.gives(True, diary.fits)
        diary.see_apart(6, "c", "d")
        # Now two deeds would have to be done after moment 6.
        self.gives(False, diary.fits)
        self.gives(5, diary.first_unfit)
        self.gives([0], diary.least_wrong)
        diary.gap(6, most=2)
        self.gives(True, diary.fits)
        self.gives(None, diary.first_unfit)

    def test_is_wrong_set(self):
        told = [(0, "together", "a", "b"), (1, "apart", "a", "b"), (1, "apart", "c", "b")]
        diary = diary_of(THREE, 2, sightings=told)
        self.gives(False, diary.is_wrong_set, [])
        self.gives(False, diary.is_wrong_set, ())
        self.gives(True, diary.is_wrong_set, [0])
        self.gives(True, diary.is_wrong_set, [2, 1, 1, 2])
        self.gives(False, diary.is_wrong_set, (2, 2))
        self.gives(True, diary.is_wrong_set, [0] * 200)
        for indexes in ([3], [-1], [0, 3, -1], (2, 1, 3, HUGE)):
            first = [index for index in indexes if index < 0 or index > 2][0]
            self.refuses(OutOfRange, {"value": first, "limit": 3}, diary.is_wrong_set, indexes)
        for index in (FORTY, -FORTY, HUGE):
            self.refuses(OutOfRange, {"value": index, "limit": 3}, diary.is_wrong_set, [0, index, 7])
        empty = Diary(THREE, 2)
        self.gives(True, empty.is_wrong_set, [])
        self.refuses(OutOfRange, {"value": 0, "limit": 0}, empty.is_wrong_set, [0])

    def test_six_and_seven_sightings(self):
        six = [(0, "together", "a", "b"), (1, "apart", "a", "b")] * 3
        diary = diary_of(THREE, 2, sightings=six)
        self.gives([0, 2, 4], diary.least_wrong)
        for sightings in ([*six, six[0]], [six[0]] * 7, six + six):
            diary = diary_of(THREE, 2, sightings=sightings)
            self.refuses(TooMany, {"count": len(sightings), "limit": 6}, diary.least_wrong)
            # Also ahead of there being no run at all.
            diary.gap(0, least=3)
            self.refuses(TooMany, {"count": len(sightings), "limit": 6}, diary.least_wrong)
        diary = diary_of(THREE, 2, sightings=six)
        diary.gap(0, least=3)
        self.refuses(NoRun, {}, diary.least_wrong)

    def test_twin(self):
        diary = diary_of(FOUR, 3, start=FOUR_SINGLES, sightings=[(1, "together", "c", "d")], bounds=[(1, 1)])
        twin = diary.twin()
        self.gives(diary, diary.twin)
        self.assertTrue(twin.pond.same_as(diary.pond))
        self.assertEqual(twin.count_runs(), diary.count_runs())
        before = shown(diary)
        self.assertEqual(twin.see_apart(0, "c", "a"), 1)
        twin.gap(1, most=0)
        self.assertEqual(shown(diary), before)
        self.assertEqual(twin.bounds, ((1, 1), (0, 0)))
        after = shown(twin)
        self.assertEqual(diary.see_together(0, "a", "b"), 1)
        diary.gap(0)
        self.assertEqual(shown(twin), after)
        self.assertEqual((diary.fits(), twin.fits()), (False, True))


class TestRunsByTheirWords(PromiseCase):
    def test_runs(self):
        for diary in some_diaries(4, 120):
            runs = runs_with(diary, diary.sightings)
            self.assertIs(diary.fits(), bool(runs))
            self.assertEqual(diary.count_runs(), len(runs))
            if runs:
                self.assertEqual(diary.run(), runs[0])
            else:
                self.refuses(NoRun, {}, diary.run)
            for moment in range(diary.moments):
                self.check_moment(diary, moment, [run[moment] for run in runs])

    def check_moment(self, diary, moment, worlds):
        expected = by_code(diary.pond, set(worlds))
        self.assertEqual(diary.worlds_at(moment), expected)
        pairs = pairs_in_order(diary.pond)
        if not worlds:
            self.refuses(NoRun, {}, diary.must, moment)
            self.refuses(NoRun, {}, diary.may, moment)
            return
        must = [pair for pair in pairs if all(is_together(world, *pair) for world in worlds)]
        may = [pair for pair in pairs if any(is_together(world, *pair) for world in worlds)]
        self.assertEqual(diary.must(moment), must)
        self.assertEqual(diary.may(moment), may)

    def test_is_run(self):
        for diary in some_diaries(4, 40):
            for row in all_lists(diary):
                self.assertIs(diary.is_run(row), is_run_by_words(diary, row, diary.sightings))

    def test_first_unfit(self):
        reached = []
        for diary in some_diaries(8, 80):
            told = diary.sightings
            unfit = [many for many in range(len(told) + 1) if not runs_with(diary, told[:many])]
            expected = unfit[0] - 1 if unfit else None
            self.assertEqual(diary.first_unfit(), expected)
            reached.append(expected)
        self.assertLessEqual({None, -1, 0, 1, 2}, set(reached))

    def test_wrong_sets(self):
        for diary in some_diaries(5, 60):
            told = diary.sightings
            right = []
            for many in range(len(told) + 1):
                for indexes in itertools.combinations(range(len(told)), many):
                    rest = [one for at, one in enumerate(told) if at not in indexes]
                    fits = bool(runs_with(diary, rest))
                    self.assertIs(diary.is_wrong_set(indexes[::-1]), fits)
                    if fits:
                        right.append(list(indexes))
            if right:
                self.assertEqual(diary.least_wrong(), right[0])
            else:
                self.refuses(NoRun, {}, diary.least_wrong)


class TestLeastRun(PromiseCase):
    def test_least_run(self):
        sightings = [(1, "together", "e", "c"), (0, "apart", "c", "e"), (2, "apart", "b", "a"),
                     (3, "together", "a", "c")]
        first = (("c",), ("a",), ("e",), ("b", "d"))
        second = (("c", "e"), ("a",), ("b", "d"))
        last = (("c", "a", "e"), ("b", "d"))
        self.gives([first, second, second, last], least_run, FIVE, first, 4, sightings)
        self.gives([first, second, second, last], least_run, pond=FIVE, start=first, moments=4,
                   sightings=tuple(sightings))
        self.gives([first], least_run, FIVE, first, 1, sightings[1:2])
        self.gives([FIVE_SINGLES] * 8, least_run, FIVE, FIVE_SINGLES, 8, [])
        self.gives([ONLY] * 8, least_run, ALONE, ONLY, 8, ())
        self.gives([TWO_SINGLES, TWO_WHOLE], least_run, TWO, TWO_SINGLES, 2, [(1, "together", "a", "b")])

    def test_crossing_sightings(self):
        # What is seen together crosses, so more comes together.
        sightings = [(0, "together", "c", "e"), (1, "together", "a", "b")]
        bare = FIVE.bare()
        expected = [(("c", "e"), ("a",), ("b",), ("d",)), (("c", "a", "e", "b"), ("d",))]
        self.gives(expected, least_run, bare, FIVE_SINGLES, 2, sightings)
        self.refuses(Ungranted, {"cause": ("strife", ("a", "b"))}, least_run, FIVE, FIVE_SINGLES, 2, sightings)

    def test_ten_lots(self):
        sightings = [(7, "together", "j", lot) for lot in TEN.names[1:]] + [(6, "apart", "a", "j")]
        self.gives([TEN_WORLD] * 7 + [WHOLE], least_run, TEN, TEN_WORLD, 8, sightings)
        sightings = [(at, "together", TEN.names[at], TEN.names[at + 1]) for at in range(8)]
        found = least_run(TEN, TEN_SINGLES, 8, sightings)
        self.assertEqual([len(world) for world in found], [9, 8, 7, 6, 5, 4, 3, 2])

    def test_ungranted(self):
        bare = FIVE.bare()
        together = [(1, "together", "c", "b"), (2, "together", "b", "e")]
        apart = [(2, "apart", "e", "b"), (2, "apart", "e", "c"), (1, "apart", "c", "e")]
        cause = {"cause": ("apart", ("c", "e"))}
        self.refuses(Ungranted, cause, least_run, bare, FIVE_SINGLES, 3, [*apart, *together])
        # The first moment that fails counts, and there a pair kept apart ahead of a strife.
        strife = [(1, "together", "c", "d"), (1, "apart", "d", "c")]
        self.refuses(Ungranted, {"cause": ("apart", ("c", "d"))}, least_run, FIVE, FIVE_SINGLES, 3,
                     [*apart, *together, *strife])
        self.refuses(Ungranted, {"cause": ("strife", ("c", "d"))}, least_run, FIVE, FIVE_SINGLES, 3,
                     [*apart, *together, strife[0]])
        # A pair kept apart at one moment may be together later.
        world = (("c", "b"), ("a",), ("e",), ("d",))
        self.gives([world, (("c", "e", "b"), ("a",), ("d",))], least_run, bare, world, 2,
                   [(0, "apart", "c", "e"), (1, "together", "e", "b")])
        start = (("c",), ("a", "e"), ("b",), ("d",))
        self.refuses(Ungranted, {"cause": ("apart", ("a", "e"))}, least_run, FIVE, start, 1, [(0, "apart", "e", "a")])

    def test_faults_of_start(self):
        self.refuses_bad_worlds(least_run, [SIX], [3, [(0, "together", "f", "c")]])
        self.refuses_bad_worlds(least_run, [SIX], [1, []])

    def test_against_a_diary_without_bounds(self):
        done = {True: 0, False: 0}
        for diary in some_diaries(4, 150):
            if diary.start is None:
                continue
            for moment in range(diary.moments - 1):
                diary.gap(moment)
            runs = runs_with(diary, diary.sightings)
            done[bool(runs)] += 1
            arguments = (diary.pond, diary.start, diary.moments, diary.sightings)
            self.assertIs(diary.fits(), bool(runs))
            if not runs:
                with self.assertRaises(Ungranted):
                    least_run(*arguments)
                continue
            least = least_run(*arguments)
            self.assertTrue(diary.is_run(least))
            for run in runs:
                self.assertTrue(all(lies_within(one, other) for one, other in zip(least, run)))
        self.assertGreater(min(done.values()), 10)

    def test_cause_by_its_words(self):
        for diary in some_diaries(6, 100):
            start = diary.start or by_code(diary.pond, all_worlds(diary.pond))[-1]
            pond, cause, expected = diary.pond, None, []
            world = start
            for moment in range(diary.moments):
                told = [(word, x, y) for at, word, x, y in diary.sightings if at == moment]
                pairs = [(x, y) for word, x, y in told if word == "together"]
                world = closing_by_words(pond, [*world, *pairs])
                kept = [{x, y} for word, x, y in told if word == "apart"]
                met = [pair for pair in pairs_in_order(pond) if is_together(world, *pair)]
                faults = [("apart", pair) for pair in met if set(pair) in kept]
                faults += [("strife", pair) for pair in met if pair in pond.strifes]
                if faults:
                    cause = faults[0]
                    break
                expected.append(world)
            arguments = (pond, start, diary.moments, list(diary.sightings))
            if cause is None:
                self.assertEqual(least_run(*arguments), expected)
            else:
                self.refuses(Ungranted, {"cause": cause}, least_run, *arguments)


class TestNothingChanges(PromiseCase):
    def test_later_changes_of_the_arguments(self):
        diary = diary_of(THREE, 2, sightings=[(0, "together", "a", "b"), (1, "apart", "a", "b")])
        before = shown(diary)
        indexes = [0]
        self.assertTrue(diary.is_wrong_set(indexes))
        indexes[0] = 1
        row = [THREE_WHOLE, THREE_WHOLE]
        self.assertFalse(diary.is_run(row))
        row.clear()
        self.assertEqual(shown(diary), before)
        sightings = [(0, "together", "a", "b")]
        worlds = least_run(THREE, THREE_SINGLES, 2, sightings)
        sightings.append((0, "together", "a", "c"))
        self.assertEqual(worlds, [(("c",), ("a", "b"))] * 2)

    def test_questions_change_nothing(self):
        diary = diary_of(FOUR, 3, sightings=[(1, "together", "c", "d"), (2, "apart", "d", "c")], bounds=[(0, 1)])
        before = shown(diary)
        diary.fits(), diary.count_runs(), diary.worlds_at(0), diary.first_unfit(), diary.least_wrong()
        diary.is_wrong_set([0]), diary.is_run([FOUR_SINGLES] * 3), diary.twin()
        self.assertEqual(shown(diary), before)
        told = list(diary)
        told.append("spoiled")
        self.assertEqual(len(list(diary)), 2)


if __name__ == "__main__":
    unittest.main()
