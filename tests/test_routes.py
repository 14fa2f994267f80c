"""routes.py: points 20, 26 and 36."""

import itertools
import unittest

from hedgejoin.between import between, count_between
from hedgejoin.chains import count_histories, histories
from hedgejoin.errors import NoRun, NotWithin, StepRefused, TooMany
from hedgejoin.ponds import Pond
from hedgejoin.roads import history
from hedgejoin.routes import (
    count_after, count_avoiding, count_through, history_after, history_avoiding, passed_counts,
)
from hedgejoin.rows import is_history, trace
from tests.helpers import (
    ALONE, BAD_WORLDS, HIGH, LOW, ONLY, SINGLES, SIX, TEN, TEN_SINGLES, WHOLE,
    WITH_STRIFES, PromiseCase, all_roads, all_worlds, lies_within, one_field, passed_by,
    rows_between,
)
from tests.test_rows import FIVE, REFUSED, SINGLES as FIVE_SINGLES

ONE = (("f", "a", "e"), ("b", "d"), ("c",))
TWO = (("f", "e"), ("a",), ("b", "d", "c"))
ASIDE = (("f",), ("a",), ("e", "b"), ("d",), ("c",))
ENTRIES = (count_through, count_avoiding, history_avoiding)


def rows_and_traces(pond, lower, upper):
    return [(row, passed_by(pond, lower, row)) for row in rows_between(pond, lower, upper)]


class TestStops(PromiseCase):
    def test_count_through(self):
        self.gives(1, count_through, SIX, LOW, HIGH, [ONE])
        self.gives(1, count_through, pond=SIX, lower=LOW, upper=HIGH, stops=(TWO,))
        self.gives(2, count_through, SIX, SINGLES, HIGH, [ONE, LOW])
        self.gives(2, count_through, SIX, SINGLES, HIGH, [LOW, ONE])
        self.gives(0, count_through, SIX, LOW, HIGH, [ONE, TWO])
        self.gives(0, count_through, SIX, LOW, HIGH, [SINGLES])
        self.gives(0, count_through, SIX, SINGLES, HIGH, [ASIDE])
        self.gives(0, count_through, SIX, SINGLES, HIGH, [ONE, ASIDE, LOW])
        self.gives(1, count_through, ALONE, ONLY, ONLY, [ONLY])

    def test_count_avoiding(self):
        self.gives(1, count_avoiding, SIX, LOW, HIGH, [ONE])
        self.gives(0, count_avoiding, pond=SIX, lower=LOW, upper=HIGH, stops=(ONE, TWO))
        self.gives(2, count_avoiding, SIX, LOW, HIGH, [ASIDE, SINGLES])
        self.gives(50, count_avoiding, SIX, SINGLES, HIGH, [LOW])
        self.gives(0, count_avoiding, ALONE, ONLY, ONLY, [ONLY])

    def test_history_avoiding(self):
        self.gives([("b", "c"), ("f", "a")], history_avoiding, SIX, LOW, HIGH, [ONE])
        expected = [("f", "a"), ("b", "c")]
        self.gives(expected, history_avoiding, pond=SIX, lower=LOW, upper=HIGH, stops=(TWO,))
        self.gives(expected, history_avoiding, SIX, LOW, HIGH, [ASIDE, SINGLES])
        self.refuses(NoRun, {}, history_avoiding, SIX, LOW, HIGH, [ONE, TWO])

    def test_no_stop(self):
        self.gives(2, count_through, SIX, LOW, HIGH, [])
        self.gives(2, count_avoiding, SIX, LOW, HIGH, ())
        self.gives([("f", "a"), ("b", "c")], history_avoiding, SIX, LOW, HIGH, [])
        for entry in ENTRIES[:2]:
            self.gives(1, entry, SIX, LOW, LOW, [])
            self.gives(1, entry, ALONE, ONLY, ONLY, [])
            self.gives(10 ** 8, entry, TEN, TEN_SINGLES, WHOLE, ())
        self.gives([], history_avoiding, SIX, LOW, LOW, ())
        self.gives([], history_avoiding, ALONE, ONLY, ONLY, [])

    def test_lower_and_upper_are_passed(self):
        for stops in ([LOW], [HIGH], [LOW, HIGH], [HIGH, ASIDE]):
            expected = 0 if ASIDE in stops else 2
            self.gives(expected, count_through, SIX, LOW, HIGH, stops)
            self.gives(0, count_avoiding, SIX, LOW, HIGH, stops)
            self.refuses(NoRun, {}, history_avoiding, SIX, LOW, HIGH, stops)
        self.gives(0, count_avoiding, SIX, LOW, LOW, [LOW])
        self.refuses(NoRun, {}, history_avoiding, SIX, LOW, LOW, [LOW])
        self.refuses(NoRun, {}, history_avoiding, TEN, TEN_SINGLES, WHOLE, [WHOLE])

    def test_repeated_stops(self):
        self.gives(1, count_through, SIX, LOW, HIGH, [ONE, ONE, ONE])
        self.gives(2, count_through, SIX, SINGLES, HIGH, [ONE, LOW, ONE, LOW] * 2)
        self.gives(0, count_through, SIX, LOW, HIGH, [ONE, TWO, ONE])
        self.gives(1, count_avoiding, SIX, LOW, HIGH, [ONE] * 8)
        self.gives(0, count_avoiding, SIX, LOW, HIGH, [ONE, TWO, TWO, ONE])
        self.gives(50, count_avoiding, SIX, SINGLES, HIGH, [LOW, ASIDE, LOW])
        self.gives([("b", "c"), ("f", "a")], history_avoiding, SIX, LOW, HIGH, [ONE] * 8)

    def test_eight_and_nine_stops(self):
        stops = [one_field(many) for many in range(2, 10)]
        shuffled = [stops[at] for at in (3, 0, 7, 1, 6, 2, 5, 4)]
        self.gives(1, count_through, TEN, TEN_SINGLES, WHOLE, shuffled)
        legs = zip([TEN_SINGLES, *shuffled[1:2]], [*shuffled[1:2], WHOLE])
        product = 1
        for before, after in legs:
            product = product * count_histories(TEN, before, after)
        self.gives(product, count_through, TEN, TEN_SINGLES, WHOLE, shuffled[1:2] * 8)
        for entry in ENTRIES:
            for nine in ([*stops, TEN_SINGLES], [WHOLE] * 9, [()] * 9):
                told = {"count": 9, "limit": 8}
                self.refuses(TooMany, told, entry, TEN, TEN_SINGLES, WHOLE, nine)
            told = {"count": 200, "limit": 8}
            self.refuses(TooMany, told, entry, TEN, TEN_SINGLES, WHOLE, [ONLY] * 200)

    def test_faults(self):
        for entry in ENTRIES:
            self.refuses_roads(entry, [[()] * 9])
            for parting, kind, attributes in BAD_WORLDS:
                for stops in ([parting], [LOW, parting, ()], (ASIDE, HIGH, parting), [parting] * 8):
                    self.refuses(kind, attributes, entry, SIX, LOW, HIGH, stops)
                told = {"count": 9, "limit": 8}
                self.refuses(TooMany, told, entry, SIX, LOW, HIGH, [parting] * 9)

    def test_one_and_two_stops_by_their_words(self):
        for pond, lower, upper in all_roads(4):
            told = rows_and_traces(pond, lower, upper)
            worlds = all_worlds(pond)
            pairs = itertools.product(worlds, repeat=2) if len(worlds) < 9 else zip(worlds, worlds[3:])
            for stops in [*[[world] for world in worlds], *[list(pair) for pair in pairs]]:
                through = [row for row, met in told if all(stop in met for stop in stops)]
                free = [row for row, met in told if not any(stop in met for stop in stops)]
                self.assertEqual(count_through(pond, lower, upper, stops), len(through))
                self.assertEqual(count_avoiding(pond, lower, upper, stops), len(free))
                if free:
                    self.assertEqual(history_avoiding(pond, lower, upper, stops), free[0])
                else:
                    self.refuses(NoRun, {}, history_avoiding, pond, lower, upper, stops)

    def test_many_stops_by_their_words(self):
        pond = Pond(["c", "a", "e", "b", "d"])
        lower = tuple([(lot,) for lot in pond.names])
        upper = (pond.names,)
        told = rows_and_traces(pond, lower, upper)
        worlds = [world for world in all_worlds(pond) if 1 < len(world) < 5]
        for first in range(0, len(worlds) - 8, 3):
            for many in (3, 8):
                stops = worlds[first:first + many]
                free = [row for row, met in told if not any(stop in met for stop in stops)]
                self.assertEqual(count_avoiding(pond, lower, upper, stops), len(free))
                self.assertEqual(count_avoiding(pond, lower, upper, stops[::-1]), len(free))
                if free:
                    self.assertEqual(history_avoiding(pond, lower, upper, stops), free[0])
        for row, met in told[::7]:
            inner = met[1:-1]
            self.assertEqual(count_through(pond, lower, upper, inner), 1)
            self.assertEqual(count_through(pond, lower, upper, inner[::-1]), 1)

    def test_each_world_between_can_be_avoided(self):
        for pond, lower, upper in all_roads(5):
            if len(lower) - len(upper) < 2:
                continue
            for world in between(pond, lower, upper):
                if world not in (lower, upper):
                    row = history_avoiding(pond, lower, upper, [world])
                    self.assertTrue(is_history(pond, lower, upper, row))
                    self.assertNotIn(world, trace(pond, lower, row))

    def test_ten_lots(self):
        worlds = []
        for at in range(1, 9):
            worlds.append((TEN.names[:at], TEN.names[at:]))
        row = history_avoiding(TEN, TEN_SINGLES, WHOLE, worlds)
        self.assertTrue(is_history(TEN, TEN_SINGLES, WHOLE, row))
        self.assertFalse([stop for stop in worlds if stop in trace(TEN, TEN_SINGLES, row)])
        avoiding = count_avoiding(TEN, TEN_SINGLES, WHOLE, worlds)
        passing = sum([count_through(TEN, TEN_SINGLES, WHOLE, [world]) for world in worlds])
        self.assertEqual(avoiding + passing, 10 ** 8)


class TestPassedCounts(PromiseCase):
    def test_passed_counts(self):
        expected = [(HIGH, 2), (ONE, 1), (TWO, 1), (LOW, 2)]
        self.gives(expected, passed_counts, SIX, LOW, HIGH)
        self.gives([(LOW, 1)], passed_counts, pond=SIX, lower=LOW, upper=LOW)
        self.gives([(ONLY, 1)], passed_counts, ALONE, ONLY, ONLY)
        self.refuses_roads(passed_counts)

    def test_too_many(self):
        self.assertEqual(len(passed_counts(TEN, TEN_SINGLES, one_field(5))), 42)
        pairs = tuple([TEN.names[at:at + 2] for at in range(0, 10, 2)])
        self.assertEqual(len(passed_counts(TEN, TEN_SINGLES, pairs)), 32)
        fields = (TEN.names[:3], TEN.names[3:6], TEN.names[6:8], ("b",), ("a",))
        for upper, count in ((fields, 50), (one_field(6), 132), (one_field(7), 429),
                             (one_field(8), 1430), (WHOLE, 16796)):
            self.assertEqual(count_between(TEN, TEN_SINGLES, upper), count)
            told = {"count": count, "limit": 42}
            self.refuses(TooMany, told, passed_counts, TEN, TEN_SINGLES, upper)

    def test_by_their_words(self):
        for pond, lower, upper in all_roads(4):
            told = rows_and_traces(pond, lower, upper)
            expected = [
                (world, len([row for row, met in told if world in met]))
                for world in between(pond, lower, upper)
            ]
            self.assertEqual(passed_counts(pond, lower, upper), expected)


class TestAfter(PromiseCase):
    def test_count_after(self):
        self.gives(2, count_after, SIX, LOW, HIGH, [])
        self.gives(1, count_after, SIX, LOW, HIGH, [("d", "c")])
        self.gives(1, count_after, pond=SIX, lower=LOW, upper=HIGH, row=(("d", "c"), ["a", "f"]))
        self.gives(0, count_after, SIX, SINGLES, HIGH, [("e", "b")])
        self.gives(0, count_after, SIX, LOW, LOW, [("d", "c")])
        self.gives(1, count_after, SIX, LOW, LOW, [])
        self.gives(1, count_after, ALONE, ONLY, ONLY, [])
        self.gives(9 ** 7, count_after, TEN, TEN_SINGLES, WHOLE, [("i", "j")])

    def test_history_after(self):
        self.gives([("f", "a"), ("b", "c")], history_after, SIX, LOW, HIGH, [])
        self.gives([("b", "c"), ("f", "a")], history_after, SIX, LOW, HIGH, [("d", "c")])
        self.gives([("b", "c"), ("f", "a")], history_after, pond=SIX, lower=LOW, upper=HIGH,
                   row=(("d", "c"), ["a", "f"]))
        self.gives([], history_after, SIX, LOW, LOW, [])
        self.gives([], history_after, ALONE, ONLY, ONLY, [])
        rest = [("j", lot) for lot in TEN.names[1:-1]]
        self.gives([("b", "a"), *rest], history_after, TEN, TEN_SINGLES, WHOLE, [("a", "b")])

    def test_rows_that_leave_upper(self):
        self.refuses(NotWithin, {"pair": ("e", "b")}, history_after, SIX, SINGLES, HIGH, [("e", "b")])
        row = [("f", "a"), ("b", "e"), ("b", "a")]
        self.refuses(NotWithin, {"pair": ("f", "b")}, history_after, SIX, SINGLES, HIGH, row)
        self.gives(0, count_after, SIX, SINGLES, HIGH, row)
        self.refuses(NotWithin, {"pair": ("b", "c")}, history_after, SIX, LOW, LOW, [("d", "c")])

    def test_faults(self):
        upper = (("c",), ("a", "e", "b", "d"))
        for entry in (count_after, history_after):
            self.refuses_roads(entry, [[("x", "x")]])
            for row, place, cause in REFUSED:
                attributes = {"place": place, "cause": cause}
                self.refuses(StepRefused, attributes, entry, FIVE, FIVE_SINGLES, upper, row)
                self.refuses(StepRefused, attributes, entry, FIVE, FIVE_SINGLES, FIVE_SINGLES, row)

    def test_by_their_words(self):
        for pond, lower, upper in all_roads(4):
            rows = histories(pond, lower, upper)
            for row, many in itertools.product(rows, range(4)):
                begin = row[:many]
                same = [other for other in rows if other[:len(begin)] == begin]
                turned = [(y, x) for x, y in begin]
                self.assertEqual(count_after(pond, lower, upper, turned), len(same))
                self.assertEqual(history_after(pond, lower, upper, turned), same[0])

    def test_each_row_of_two_deeds(self):
        pond = WITH_STRIFES[3]
        lower = tuple([(lot,) for lot in pond.names])
        uppers = [world for world in all_worlds(pond) if len(world) < 4]
        for upper, middle in itertools.product(uppers, repeat=2):
            for row in histories(pond, lower, middle):
                expected = 0
                if lies_within(middle, upper):
                    expected = count_histories(pond, middle, upper)
                    whole = [*row, *history(pond, middle, upper)]
                    self.assertEqual(history_after(pond, lower, upper, row), whole)
                self.assertEqual(count_after(pond, lower, upper, row), expected)


if __name__ == "__main__":
    unittest.main()
