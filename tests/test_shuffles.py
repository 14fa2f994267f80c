"""shuffles.py: points 31 and 35."""

import itertools
import unittest

from hedgejoin.chains import histories
from hedgejoin.errors import BadSplit, EndsDiffer, StepRefused
from hedgejoin.partings import one_world, single_world
from hedgejoin.ponds import Pond
from hedgejoin.rows import is_history, plain_row
from hedgejoin.shuffles import mix_history, split_history
from hedgejoin.smalls import deed_small, small_deed
from tests.helpers import (
    ALONE, HIGH, HUGE, LOW, ONLY, SIX, TEN, TEN_SINGLES, TEN_WORLD, WHOLE, PromiseCase,
    all_roads, passed_by, rows_between, smalls_by_words,
)
from tests.test_rows import FIVE, REFUSED, SINGLES as FIVE_SINGLES

# The small ponds are (a, b, c), (d, e).
OTHER = Pond(["a", "b", "c", "d", "e"], strifes=[("a", "e")])
OTHER_SINGLES = (("a",), ("b",), ("c",), ("d",), ("e",))
OTHER_UPPER = (("a", "b", "c"), ("d", "e"))


class TestSplitHistory(PromiseCase):
    def test_split_history(self):
        row = [("a", "e"), ("d", "c")]
        told = ([0, 3], [[("f", "a")], [], [], [("b", "c")]])
        self.gives(told, split_history, SIX, LOW, HIGH, row)
        told = ([3, 0], [[("f", "a")], [], [], [("b", "c")]])
        self.gives(told, split_history, pond=SIX, lower=LOW, upper=HIGH, row=tuple(row[::-1]))
        row = [("c", "b"), ["e", "d"], ("c", "a")]
        told = ([0, 1, 0], [[("b", "c"), ("a", "b")], [("d", "e")]])
        self.gives(told, split_history, OTHER, OTHER_SINGLES, OTHER_UPPER, row)

    def test_equal_worlds(self):
        self.gives(([], [[], [], [], [], [], []]), split_history, SIX, LOW, LOW, [])
        self.gives(([], [[]]), split_history, ALONE, ONLY, ONLY, ())
        self.gives(([], [[]] * 10), split_history, TEN, WHOLE, WHOLE, [])

    def test_ten_lots(self):
        # The small ponds are (j, i), (i, h), (j, e, d), (d, c, b).
        row = [("b", "c"), ("h", "g"), ("a", "e"), ("i", "f"), ("b", "a"), ("j", "a")]
        parts = [[("j", "i")], [("i", "h")], [("e", "d"), ("j", "e")], [("c", "b"), ("d", "c")]]
        self.gives(([3, 1, 2, 0, 3, 2], parts), split_history, TEN, TEN_WORLD, WHOLE, row)
        row = [("j", lot) for lot in TEN.names[1:]]
        self.gives(([0] * 9, [row]), split_history, TEN, TEN_SINGLES, WHOLE, row)

    def test_faults(self):
        self.refuses_roads(split_history, [[("x", "x")]])
        upper = (("c",), ("a", "e", "b", "d"))
        for row, place, cause in REFUSED:
            attributes = {"place": place, "cause": cause}
            self.refuses(StepRefused, attributes, split_history, FIVE, FIVE_SINGLES, upper, row)

    def test_rows_that_do_not_lead_to_upper(self):
        bare = SIX.bare()
        rows = [[], [("f", "a")], [("b", "c")], [("f", "a"), ("b", "e")], [("b", "f")],
                [("f", "a"), ("d", "c"), ("b", "f")]]
        for row in rows:
            self.refuses(EndsDiffer, {}, split_history, bare, LOW, HIGH, row)
        self.refuses(EndsDiffer, {}, split_history, SIX, LOW, LOW, [("f", "a")])
        self.refuses(EndsDiffer, {}, split_history, TEN, TEN_SINGLES, WHOLE, [("j", "i")])

    def test_by_its_words(self):
        for pond, lower, upper in all_roads(4):
            smalls = smalls_by_words(pond, lower, upper)
            for row in rows_between(pond, lower, upper):
                schedule = []
                parts = [[] for _ in smalls]
                for world, (x, y) in zip(passed_by(pond, lower, row), row):
                    index = deed_small(pond, lower, upper, world, x, y)
                    schedule.append(index)
                    parts[index].append(small_deed(pond, lower, upper, world, x, y))
                found = split_history(pond, lower, upper, row)
                self.assertEqual(found, (schedule, parts))
                for lots, part in zip(smalls, parts):
                    small = Pond(lots)
                    start, end = single_world(small), one_world(small)
                    self.assertTrue(is_history(small, start, end, part))
                    self.assertEqual(plain_row(small, start, part), part)


class TestMixHistory(PromiseCase):
    def test_mix_history(self):
        parts = [[("f", "a")], [], [], [("b", "c")]]
        self.gives([("f", "a"), ("b", "c")], mix_history, SIX, LOW, HIGH, [0, 3], parts)
        expected = [("b", "c"), ("f", "a")]
        self.gives(expected, mix_history, pond=SIX, lower=LOW, upper=HIGH, schedule=(3, 0),
                   parts=tuple([tuple(part) for part in parts]))
        parts = [[("c", "b"), ["c", "a"]], [("e", "d")]]
        expected = [("b", "c"), ("a", "b"), ("d", "e")]
        self.gives(expected, mix_history, OTHER, OTHER_SINGLES, OTHER_UPPER, [0, 0, 1], parts)
        expected = [("d", "e"), ("b", "c"), ("a", "b")]
        self.gives(expected, mix_history, OTHER, OTHER_SINGLES, OTHER_UPPER, [1, 0, 0], parts)

    def test_equal_worlds(self):
        self.gives([], mix_history, SIX, LOW, LOW, [], [[], (), [], [], [], []])
        self.gives([], mix_history, ALONE, ONLY, ONLY, (), ([],))

    def test_ten_lots(self):
        parts = [[("i", "j")], [("i", "h")], [("e", "d"), ("j", "d")], [("c", "b"), ("d", "b")]]
        row = [("c", "b"), ("i", "h"), ("e", "d"), ("j", "i"), ("e", "c"), ("j", "e")]
        schedule = [3, 1, 2, 0, 3, 2]
        self.gives(row, mix_history, TEN, TEN_WORLD, WHOLE, schedule, parts)

    def test_faults_of_worlds(self):
        self.refuses_roads(mix_history, [[-1], []])

    def test_schedules(self):
        # Of an index that is none, whatever else is wrong, the number of small ponds is told.
        for index in (-1, 4, 5, HUGE, -HUGE, -2):
            for schedule in ([index], [0, 3, index], [index, 0, 0, 3], (0, index)):
                told = {"place": 4}
                self.refuses(BadSplit, told, mix_history, SIX, LOW, HIGH, schedule, [])
        cases = [
            ([], 0), ([3], 0), ([0], 3), ([0, 0, 3], 0), ([0, 0], 0), ([0, 1, 3], 1), ([0, 2, 3], 2),
            ([1, 2], 0), ([0, 3, 3], 3), ([3, 0, 2, 1], 1), ([0] * 200, 0), ([3, 3], 0),
        ]
        for schedule, place in cases:
            told = {"place": place}
            self.refuses(BadSplit, told, mix_history, SIX, LOW, HIGH, schedule, [])
            parts = [[("f", "a")], [], [], [("b", "c")]]
            self.refuses(BadSplit, told, mix_history, SIX, LOW, HIGH, tuple(schedule), parts)
        self.refuses(BadSplit, {"place": 1}, mix_history, ALONE, ONLY, ONLY, [1], [[]])
        self.refuses(BadSplit, {"place": 0}, mix_history, ALONE, ONLY, ONLY, [0], [[]])

    def test_number_of_parts(self):
        parts = [[("f", "a")], [], [], [("b", "c")]]
        for many in range(4):
            told = {"place": many}
            self.refuses(BadSplit, told, mix_history, SIX, LOW, HIGH, [0, 3], parts[:many])
            wrong = [[("x", "x")]] * many
            self.refuses(BadSplit, told, mix_history, SIX, LOW, HIGH, [0, 3], wrong)
        for more in ([[]], [[], []], [[("x", "x")]] * 100):
            told = {"place": 4}
            self.refuses(BadSplit, told, mix_history, SIX, LOW, HIGH, [0, 3], [*parts, *more])
            self.refuses(BadSplit, told, mix_history, SIX, LOW, HIGH, [0, 3], [*more, *more] * 4)

    def test_wrong_parts(self):
        right = [[("b", "c"), ("a", "b")], [("d", "e")]]
        wrong = [
            [], [("b", "c")], [("b", "c"), ("b", "c")], [("b", "c"), ("a", "a")],
            [("b", "c"), ("a", "d")], [("b", "c"), ("a", "x")], [("b", "c"), ("a", "b"), ("a", "c")],
            [("d", "e")], [("b", "c"), ("e", "a")],
        ]
        entry, roads = mix_history, (OTHER, OTHER_SINGLES, OTHER_UPPER)
        for part in wrong:
            told = {"place": 0}
            self.refuses(BadSplit, told, entry, *roads, [0, 0, 1], [part, right[1]])
            self.refuses(BadSplit, told, entry, *roads, [0, 0, 1], [part, []])
        for part in ([], [("d", "e"), ("d", "e")], [("a", "b")], [("d", "d")], [("d", "x")]):
            told = {"place": 1}
            self.refuses(BadSplit, told, entry, *roads, [0, 0, 1], [right[0], part])

    def test_deeds_that_name_other_lots_of_the_same_fields(self):
        # e lies in one field with f, and d with b, but only f and b stand for them.
        parts = [[("e", "a")], [], [], [("b", "c")]]
        self.refuses(BadSplit, {"place": 0}, mix_history, SIX, LOW, HIGH, [0, 3], parts)
        parts = [[("f", "a")], [], [], [("d", "c")]]
        self.refuses(BadSplit, {"place": 3}, mix_history, SIX, LOW, HIGH, [0, 3], parts)
        parts = [[("f", "a")], [], [("b", "c")], [("b", "c")]]
        self.refuses(BadSplit, {"place": 2}, mix_history, SIX, LOW, HIGH, [0, 3], parts)

    def test_parts_that_cross(self):
        pond = Pond(["a", "b", "c", "d"])
        singles = (("a",), ("b",), ("c",), ("d",))
        part = [("a", "c"), ("b", "d"), ("a", "b")]
        told = {"place": 0}
        self.refuses(BadSplit, told, mix_history, pond, singles, (pond.names,), [0, 0, 0], [part])

    def test_strifes_of_the_pond_are_none_of_the_small_ponds(self):
        pond = Pond(["a", "b", "c"], strifes=[("a", "c")])
        lower = (("a",), ("b",), ("c",))
        self.gives([("a", "b")], mix_history, pond, lower, (("a", "b"), ("c",)), [0], [[("a", "b")], []])

    def test_a_mixed_history_of_the_split_one(self):
        for pond, lower, upper in all_roads(4):
            for row in histories(pond, lower, upper):
                schedule, parts = split_history(pond, lower, upper, row)
                self.assertEqual(mix_history(pond, lower, upper, schedule, parts), row)

    def test_any_schedule_and_parts_belong_to_exactly_one_history(self):
        for pond, lower, upper in all_roads(4):
            smalls = smalls_by_words(pond, lower, upper)
            items = [at for at, lots in enumerate(smalls) for _ in lots[1:]]
            schedules = sorted(set(itertools.permutations(items)))
            own = [
                histories(Pond(lots), single_world(Pond(lots)), one_world(Pond(lots)))
                for lots in smalls
            ]
            found = [
                mix_history(pond, lower, upper, schedule, parts)
                for schedule in schedules for parts in itertools.product(*own)
            ]
            order = {pair: at for at, pair in enumerate(itertools.combinations(pond.names, 2))}
            found = sorted(found, key=lambda row: [order[deed] for deed in row])
            self.assertEqual(found, histories(pond, lower, upper))


if __name__ == "__main__":
    unittest.main()
