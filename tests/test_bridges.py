"""bridges.py: points 21, 35 and 36."""

import itertools
import unittest

from hedgejoin.bridges import (
    exchange_all, find_bridge, is_across, is_bridge, kin_bridge, kin_distance, kin_paper,
    least_bridge, middle_worlds, sorted_row, sorting_bridge,
)
from hedgejoin.chains import count_histories, histories
from hedgejoin.errors import EndsDiffer, OutOfRange, StepRefused, TooMany
from hedgejoin.ponds import Pond
from hedgejoin.roads import history
from hedgejoin.rows import exchange, plain_row, ways_at
from hedgejoin.shuffles import mix_history, split_history
from tests.helpers import (
    ALONE, HIGH, HUGE, LOW, ONLY, SIX, TEN, TEN_SINGLES, TEN_WORLD, WHOLE, PromiseCase,
    all_roads, all_worlds, code_of, deeds_from, lies_within, one_field, passed_by,
)
from tests.test_rows import FIVE, REFUSED, SINGLES as FIVE_SINGLES

FOUR = Pond(["a", "b", "c", "d"])
FOUR_SINGLES = (("a",), ("b",), ("c",), ("d",))
# The small ponds are (a, b, c), (d, e).
OTHER = Pond(["a", "b", "c", "d", "e"], strifes=[("a", "e")])
OTHER_SINGLES = (("a",), ("b",), ("c",), ("d",), ("e",))
OTHER_UPPER = (("a", "b", "c"), ("d", "e"))
TEN_ROW = [("c", "b"), ("i", "h"), ("e", "d"), ("j", "i"), ("d", "b"), ("j", "e")]


def refuses_rows(case, entry, more=(), ahead=()):
    """StepRefused for a row that is replayed from the single lots of FIVE, whatever follows."""
    for row, place, cause in REFUSED:
        attributes = {"place": place, "cause": cause}
        case.refuses(StepRefused, attributes, entry, FIVE, FIVE_SINGLES, *ahead, row, *more)


class TestExchangeAll(PromiseCase):
    def test_exchange_all(self):
        row = [("c", "b"), ("e", "d"), ("c", "a")]
        self.gives([("d", "e"), ("b", "c"), ("a", "b")], exchange_all, OTHER, OTHER_SINGLES, row,
                   [(0, 1)])
        expected = [("b", "c"), ("a", "b"), ("d", "e")]
        self.gives(expected, exchange_all, pond=OTHER, start=OTHER_SINGLES, row=tuple(row),
                   bridge=[[1, 1]])
        expected = [("a", "b"), ("a", "c"), ("d", "e")]
        self.gives(expected, exchange_all, OTHER, OTHER_SINGLES, row, ((1, 1), (0, 1)))
        expected = [("a", "c"), ("a", "b"), ("d", "e")]
        self.gives(expected, exchange_all, OTHER, OTHER_SINGLES, row, [(1, -1), (0, -1)])

    def test_empty_bridge(self):
        row = [("c", "b"), ["e", "d"], ("c", "a")]
        plain = [("b", "c"), ("d", "e"), ("a", "b")]
        self.gives(plain, exchange_all, OTHER, OTHER_SINGLES, row, [])
        self.gives([], exchange_all, OTHER, OTHER_SINGLES, [], ())
        self.gives([], exchange_all, ALONE, ONLY, (), [])

    def test_by_of_all_signs(self):
        row = [("a", "b"), ("a", "c"), ("d", "e")]
        for by in (0, 3, -3, 999, -999):
            self.gives(row, exchange_all, OTHER, OTHER_SINGLES, row, [(0, by)])
        for by in (0, 2, -2, 1000, -1000):
            self.gives(row, exchange_all, OTHER, OTHER_SINGLES, row, [(1, by)])
        for by in (1, -2, 4, 1000, -998):
            expected = [("a", "c"), ("a", "b"), ("d", "e")]
            self.gives(expected, exchange_all, OTHER, OTHER_SINGLES, row, [(0, by)])
        for by in (1, -1, 999, -999):
            expected = [("a", "b"), ("d", "e"), ("a", "c")]
            self.gives(expected, exchange_all, OTHER, OTHER_SINGLES, row, [(1, by)])

    def test_sixty_exchanges(self):
        row = [("j", lot) for lot in TEN.names[1:]]
        bridge = [(at % 8, 1 + at % 2) for at in range(60)]
        expected = row
        for at, by in bridge:
            expected = exchange(TEN, TEN_SINGLES, expected, at, by=by)
        self.gives(expected, exchange_all, TEN, TEN_SINGLES, row, bridge)

    def test_places_that_are_not_possible(self):
        row = [("b", "c"), ("d", "e"), ("a", "b")]
        for at in (-1, 2, 3, HUGE, -HUGE):
            told = {"value": at, "limit": 2}
            self.refuses(OutOfRange, told, exchange_all, OTHER, OTHER_SINGLES, row, [(at, 1)])
            bridge = [(1, 1), (at, 0), (5, 1)]
            self.refuses(OutOfRange, told, exchange_all, OTHER, OTHER_SINGLES, row, bridge)
        for short in ([], [("b", "c")]):
            for at in (0, -1, 1):
                told = {"value": at, "limit": 0}
                self.refuses(OutOfRange, told, exchange_all, OTHER, OTHER_SINGLES, short, [(at, 1)])

    def test_faults(self):
        self.refuses_bad_worlds(exchange_all, [SIX], [[("x", "x")], [(-1, 1)]])
        refuses_rows(self, exchange_all, [[(-1, 1)]])

    def test_against_exchange(self):
        for pond, lower, upper in all_roads(4):
            for row in histories(pond, lower, upper):
                for at, by in itertools.product(range(len(row) - 1), (-1, 1, 2)):
                    changed = exchange(pond, lower, row, at, by=by)
                    self.assertEqual(exchange_all(pond, lower, row, [(at, by)]), changed)
                    back = [(at, by), (at, -by)]
                    self.assertEqual(exchange_all(pond, lower, row, back), row)


class TestFindBridge(PromiseCase):
    def checks_bridge(self, pond, start, first, second):
        """What is promised of any bridge, as more than one may be returned."""
        bridge = find_bridge(pond, start, first, second)
        self.gives(bridge, find_bridge, pond, start, first, second)
        self.assertIs(type(bridge), list)
        self.assertLessEqual(len(bridge), 60)
        for pair in bridge:
            self.assertIs(type(pair), tuple)
            self.assertEqual([type(item) for item in pair], [int, int])
            self.assertIn(pair[1], (1, 2))
        self.assertIs(is_bridge(pond, start, first, second, bridge), True)
        plain = plain_row(pond, start, second)
        self.assertEqual(exchange_all(pond, start, first, bridge), plain)
        self.assertIs(bridge == [], plain_row(pond, start, first) == plain)

    def test_find_bridge(self):
        self.gives([], find_bridge, FOUR, FOUR_SINGLES, [("a", "b"), ("c", "d")],
                   [("b", "a"), ["d", "c"]])
        self.gives([], find_bridge, pond=ALONE, start=ONLY, first=[], second=())
        self.gives([], find_bridge, FOUR, FOUR_SINGLES, [("a", "b")], [("b", "a")])
        first = [("a", "b"), ("c", "d"), ("a", "c")]
        second = [("d", "a"), ("a", "c"), ("b", "c")]
        self.checks_bridge(FOUR, FOUR_SINGLES, first, second)
        self.checks_bridge(FOUR, FOUR_SINGLES, second, tuple(first))

    def test_all_histories_of_small_ponds(self):
        for pond, lower, upper in all_roads(4):
            rows = histories(pond, lower, upper)
            for first, second in itertools.product(rows, repeat=2):
                bridge = find_bridge(pond, lower, first, second)
                self.assertTrue(is_bridge(pond, lower, first, second, bridge))
                self.assertIs(bridge == [], first == second)
                self.assertTrue(all(by in (1, 2) for _, by in bridge) and len(bridge) <= 60)

    def test_four_deeds(self):
        rows = histories(TEN, TEN_SINGLES, one_field(5))
        for second in rows[::9]:
            self.checks_bridge(TEN, TEN_SINGLES, rows[60], second)
        pairs = tuple([TEN.names[at:at + 2] for at in range(0, 8, 2)]) + (("b",), ("a",))
        rows = histories(TEN, TEN_SINGLES, pairs)
        self.checks_bridge(TEN, TEN_SINGLES, rows[0], rows[-1])

    def test_ends_differ(self):
        row = [("a", "b"), ("c", "d")]
        for other in ([], [("a", "b")], [("c", "d")], [("a", "b"), ("a", "c")],
                      [("a", "b"), ("c", "d"), ("a", "c")]):
            self.refuses(EndsDiffer, {}, find_bridge, FOUR, FOUR_SINGLES, row, other)
            self.refuses(EndsDiffer, {}, find_bridge, FOUR, FOUR_SINGLES, other, row)
        long = [("j", lot) for lot in TEN.names[1:]]
        self.refuses(EndsDiffer, {}, find_bridge, TEN, TEN_SINGLES, long, long[:-1])
        self.refuses(EndsDiffer, {}, find_bridge, TEN, TEN_SINGLES, long[:-1], [])

    def test_too_many(self):
        long = [("j", lot) for lot in TEN.names[1:]]
        for many in range(5, 10):
            told = {"count": many, "limit": 4}
            row = long[:many]
            self.refuses(TooMany, told, find_bridge, TEN, TEN_SINGLES, row, row)
            self.refuses(TooMany, told, find_bridge, TEN, TEN_SINGLES, row, row[::-1])

    def test_faults(self):
        for entry, more in ((find_bridge, []), (is_bridge, [[(-1, 1)]])):
            self.refuses_bad_worlds(entry, [SIX], [[("x", "x")], [("x", "x")], *more])
            refuses_rows(self, entry, [[("x", "x")], *more])
            refuses_rows(self, entry, more, [[("a", "e")]])
            refuses_rows(self, entry, more, [[]])


class TestIsBridge(PromiseCase):
    def test_is_bridge(self):
        first = [("c", "b"), ("e", "d"), ("c", "a")]
        second = [("a", "b"), ("a", "c"), ("e", "d")]
        self.gives(True, is_bridge, OTHER, OTHER_SINGLES, first, second, [(1, 1), (0, 1)])
        self.gives(True, is_bridge, pond=OTHER, start=OTHER_SINGLES, first=tuple(first),
                   second=tuple(second), bridge=([1, 3], (0, -2)))
        roundabout = [(1, 1), (0, 2), (0, 2), (1, 2)]
        self.gives(True, is_bridge, OTHER, OTHER_SINGLES, first, second, roundabout)
        wrong = [[], [(1, 1)], [(0, 1), (1, 1)], [(1, 1), (0, 2)], [(1, 1), (0, 1), (0, 1)],
                 [(1, 2), (0, 1)], [(-1, 1)], [(2, 1)], [(1, 1), (0, 1), (2, 0)],
                 [(HUGE, 1), (1, 1), (0, 1)], [(1, 1), (-HUGE, 0), (0, 1)]]
        for bridge in wrong:
            self.gives(False, is_bridge, OTHER, OTHER_SINGLES, first, second, bridge)

    def test_the_same_history(self):
        row = [("c", "b"), ("e", "d"), ("c", "a")]
        plain = [("b", "c"), ("d", "e"), ("a", "b")]
        self.gives(True, is_bridge, OTHER, OTHER_SINGLES, row, plain, [])
        self.gives(True, is_bridge, OTHER, OTHER_SINGLES, row, plain, [(0, 2), (1, 0), (1, -1000)])
        self.gives(False, is_bridge, OTHER, OTHER_SINGLES, row, plain, [(0, 1)])
        self.gives(True, is_bridge, ALONE, ONLY, [], [], [])
        self.gives(False, is_bridge, ALONE, ONLY, [], [], [(0, 0)])

    def test_rows_with_different_ends(self):
        row = [("a", "b"), ("c", "d")]
        for other in ([], [("a", "b")], [("a", "b"), ("a", "c")],
                      [("a", "b"), ("c", "d"), ("a", "c")]):
            for bridge in ([], [(0, 1)], [(0, 2)], [(5, 1)]):
                self.gives(False, is_bridge, FOUR, FOUR_SINGLES, row, other, bridge)
                self.gives(False, is_bridge, FOUR, FOUR_SINGLES, other, row, bridge)

    def test_long_rows(self):
        row = [("j", lot) for lot in TEN.names[1:]]
        bridge = [(at % 8, 1 + at % 2) for at in range(60)]
        after = exchange_all(TEN, TEN_SINGLES, row, bridge)
        self.gives(True, is_bridge, TEN, TEN_SINGLES, row, after, bridge)
        self.gives(False, is_bridge, TEN, TEN_SINGLES, row, after, bridge[1:])
        self.gives(False, is_bridge, TEN, TEN_SINGLES, row, row, bridge)


class TestMiddleWorlds(PromiseCase):
    def test_middle_worlds(self):
        middles = [(("f", "a", "e"), ("b", "d"), ("c",)), (("f", "e"), ("a",), ("b", "d", "c"))]
        self.gives(middles, middle_worlds, SIX, LOW, HIGH)
        middles = [(("a", "b"), ("c",)), (("a", "c"), ("b",)), (("a",), ("b", "c"))]
        three = Pond(["a", "b", "c"])
        singles = (("a",), ("b",), ("c",))
        self.gives(middles, middle_worlds, pond=three, lower=singles, upper=(three.names,))
        self.refuses_roads(middle_worlds)

    def test_other_numbers_of_deeds(self):
        self.gives([], middle_worlds, SIX, LOW, LOW)
        self.gives([], middle_worlds, FOUR, FOUR_SINGLES, (("a", "b"), ("c",), ("d",)))
        self.gives([], middle_worlds, FOUR, FOUR_SINGLES, (FOUR.names,))
        self.gives([], middle_worlds, ALONE, ONLY, ONLY)
        self.gives([], middle_worlds, TEN, TEN_SINGLES, WHOLE)

    def test_by_their_words(self):
        for pond, lower, upper in all_roads(5):
            expected = []
            for _, middle in deeds_from(pond, lower):
                if len(middle) == len(upper) + 1 and lies_within(middle, upper):
                    expected.append(middle)
            expected = sorted(expected, key=lambda world: code_of(pond, world))
            self.assertEqual(middle_worlds(pond, lower, upper), expected)
            if len(lower) - len(upper) == 2:
                row = history(pond, lower, upper)
                self.assertEqual(len(expected), len(ways_at(pond, lower, row, 0)))
                self.assertIn(len(expected), (2, 3))


class TestAcross(PromiseCase):
    def test_is_across(self):
        row = [("c", "b"), ("e", "d"), ("c", "a")]
        roads = (OTHER, OTHER_SINGLES, OTHER_UPPER)
        self.gives(True, is_across, *roads, row, 0)
        self.gives(True, is_across, *roads, tuple(row), 1)
        self.gives(False, is_across, *roads, [("b", "c"), ("a", "b"), ("d", "e")], 0)
        self.gives(False, is_across, pond=TEN, lower=TEN_SINGLES, upper=WHOLE,
                   row=[("j", lot) for lot in TEN.names[1:]], at=7)
        self.gives(True, is_across, TEN, TEN_WORLD, WHOLE, TEN_ROW, 4)

    def test_places(self):
        row = [("c", "b"), ("e", "d"), ("c", "a")]
        for at in (-1, 2, 3, HUGE, -HUGE):
            told = {"value": at, "limit": 2}
            self.refuses(OutOfRange, told, is_across, OTHER, OTHER_SINGLES, OTHER_UPPER, row, at)
        for at in (-1, 0, 1):
            told = {"value": at, "limit": 0}
            self.refuses(OutOfRange, told, is_across, SIX, LOW, LOW, [], at)
            upper = (("f", "a", "e"), ("b", "d"), ("c",))
            self.refuses(OutOfRange, told, is_across, SIX, LOW, upper, [("a", "f")], at)

    def test_exchanges_across_and_inside(self):
        for pond, lower, upper in all_roads(4):
            for row in histories(pond, lower, upper):
                schedule, parts = split_history(pond, lower, upper, row)
                for at in range(len(row) - 1):
                    across = schedule[at] != schedule[at + 1]
                    self.assertIs(is_across(pond, lower, upper, row, at), across)
                    ways = ways_at(pond, lower, row, at)
                    for by in range(1, len(ways)):
                        after = exchange(pond, lower, row, at, by=by)
                        swapped, others = split_history(pond, lower, upper, after)
                        if across:
                            self.assertEqual(len(ways), 2)
                            expected = list(schedule)
                            expected[at], expected[at + 1] = expected[at + 1], expected[at]
                            self.assertEqual((swapped, others), (expected, parts))
                        else:
                            self.assertEqual(swapped, schedule)
                            differ = [one for one, two in zip(parts, others) if one != two]
                            self.assertEqual(len(differ), 1)


class TestSorting(PromiseCase):
    def test_sorted_row(self):
        row = [("e", "d"), ("c", "b"), ("c", "a")]
        expected = [("b", "c"), ("a", "b"), ("d", "e")]
        self.gives(expected, sorted_row, OTHER, OTHER_SINGLES, OTHER_UPPER, row)
        self.gives(expected, sorted_row, pond=OTHER, lower=OTHER_SINGLES, upper=OTHER_UPPER,
                   row=tuple(expected))
        self.gives([], sorted_row, SIX, LOW, LOW, [])
        self.gives([], sorted_row, ALONE, ONLY, ONLY, ())
        expected = [("j", "i"), ("j", "h"), ("e", "d"), ("j", "e"), ("c", "b"), ("j", "c")]
        self.gives(expected, sorted_row, TEN, TEN_WORLD, WHOLE, TEN_ROW)

    def test_sorting_bridge(self):
        row = [("e", "d"), ("c", "b"), ("c", "a")]
        roads = (OTHER, OTHER_SINGLES, OTHER_UPPER)
        self.gives([(0, 1), (1, 1)], sorting_bridge, *roads, row)
        self.gives([(1, 1)], sorting_bridge, *roads, [("b", "c"), ("d", "e"), ("a", "b")])
        self.gives([], sorting_bridge, pond=OTHER, lower=OTHER_SINGLES, upper=OTHER_UPPER,
                   row=(("b", "c"), ("a", "b"), ("d", "e")))
        self.gives([], sorting_bridge, SIX, LOW, LOW, [])
        self.gives([], sorting_bridge, ALONE, ONLY, ONLY, [])
        # The schedule is 3 1 2 0 3 2.
        expected = [(0, 1), (1, 1), (2, 1), (1, 1), (0, 1), (4, 1), (3, 1)]
        self.gives(expected, sorting_bridge, TEN, TEN_WORLD, WHOLE, TEN_ROW)

    def test_by_their_words(self):
        for pond, lower, upper in all_roads(4):
            for row in histories(pond, lower, upper):
                schedule, parts = split_history(pond, lower, upper, row)
                expected = []
                numbers = list(schedule)
                while numbers != sorted(numbers):
                    at = [at for at in range(len(row) - 1) if numbers[at] > numbers[at + 1]][0]
                    numbers[at], numbers[at + 1] = numbers[at + 1], numbers[at]
                    expected.append((at, 1))
                self.assertEqual(sorting_bridge(pond, lower, upper, row), expected)
                after = sorted_row(pond, lower, upper, row)
                mixed = mix_history(pond, lower, upper, sorted(schedule), parts)
                self.assertEqual(after, mixed)
                self.assertEqual(exchange_all(pond, lower, row, expected), after)
                self.assertEqual(kin_distance(pond, lower, upper, row, after), len(expected))

    def test_ten_lots(self):
        bridge = sorting_bridge(TEN, TEN_WORLD, WHOLE, TEN_ROW)
        after = exchange_all(TEN, TEN_WORLD, TEN_ROW, bridge)
        self.assertEqual(after, sorted_row(TEN, TEN_WORLD, WHOLE, TEN_ROW))


class TestKin(PromiseCase):
    def test_kin_paper(self):
        first = [("c", "b"), ("e", "d"), ("c", "a")]
        roads = (OTHER, OTHER_SINGLES, OTHER_UPPER)
        self.gives(None, kin_paper, *roads, first, [("b", "c"), ("a", "c"), ("d", "e")])
        self.gives(None, kin_paper, *roads, first, first)
        self.gives((0, 0), kin_paper, *roads, first, [("a", "b"), ("a", "c"), ("d", "e")])
        self.gives((0, 0), kin_paper, pond=OTHER, lower=OTHER_SINGLES, upper=OTHER_UPPER,
                   first=tuple(first), second=(("e", "d"), ("c", "a"), ("c", "b")))
        self.gives(None, kin_paper, SIX, LOW, LOW, [], [])
        row = [("j", lot) for lot in TEN.names[1:]]
        other = [*row[:7], row[8], row[7]]
        self.gives((0, 7), kin_paper, TEN, TEN_SINGLES, WHOLE, row, other)
        other = [("c", "b"), ("i", "h"), ("e", "d"), ("j", "i"), ("d", "c"), ("j", "e")]
        self.gives(None, kin_paper, TEN, TEN_WORLD, WHOLE, TEN_ROW, other)
        other = [("d", "b"), ("i", "h"), ("d", "e"), ("j", "i"), ("d", "c"), ("j", "e")]
        self.gives((3, 0), kin_paper, TEN, TEN_WORLD, WHOLE, TEN_ROW, other)

    def test_kin_distance(self):
        first = [("c", "b"), ("e", "d"), ("c", "a")]
        roads = (OTHER, OTHER_SINGLES, OTHER_UPPER)
        self.gives(1, kin_distance, *roads, first, [("b", "c"), ("a", "c"), ("d", "e")])
        self.gives(2, kin_distance, *roads, [("b", "c"), ("a", "c"), ("d", "e")],
                   [("d", "e"), ("b", "c"), ("a", "c")])
        self.gives(0, kin_distance, *roads, first, tuple(first))
        self.gives(None, kin_distance, *roads, first, [("a", "b"), ("a", "c"), ("d", "e")])
        self.gives(0, kin_distance, pond=ALONE, lower=ONLY, upper=ONLY, first=[], second=())
        after = sorted_row(TEN, TEN_WORLD, WHOLE, TEN_ROW)
        self.gives(7, kin_distance, TEN, TEN_WORLD, WHOLE, TEN_ROW, after)

    def test_kin_bridge(self):
        first = [("c", "b"), ("e", "d"), ("c", "a")]
        roads = (OTHER, OTHER_SINGLES, OTHER_UPPER)
        self.gives([(1, 1)], kin_bridge, *roads, first, [("b", "c"), ("a", "c"), ("d", "e")])
        self.gives([(1, 1), (0, 1)], kin_bridge, *roads, [("b", "c"), ("a", "c"), ("d", "e")],
                   [("d", "e"), ("b", "c"), ("a", "c")])
        self.gives([], kin_bridge, *roads, first, first)
        self.gives(None, kin_bridge, *roads, first, [("a", "b"), ("a", "c"), ("d", "e")])
        self.gives([], kin_bridge, pond=SIX, lower=LOW, upper=LOW, first=(), second=[])

    def test_by_their_words(self):
        for pond, lower, upper in all_roads(4):
            rows = histories(pond, lower, upper)
            split = [split_history(pond, lower, upper, row) for row in rows]
            for one, two in itertools.product(range(len(rows)), repeat=2):
                roads = (pond, lower, upper, rows[one], rows[two])
                parts, others = split[one][1], split[two][1]
                differ = [
                    (k, i) for k, part in enumerate(parts) for i in range(len(part))
                    if part[i] != others[k][i]
                ]
                self.assertEqual(kin_paper(*roads), differ[0] if differ else None)
                if differ:
                    self.assertIsNone(kin_distance(*roads))
                    self.assertIsNone(kin_bridge(*roads))
                    continue
                far = distance_by_words(split[one][0], split[two][0])
                self.assertEqual(kin_distance(*roads), far)
                bridge = kin_bridge(*roads)
                self.assertEqual(len(bridge), far)
                self.assertTrue(is_bridge(pond, lower, rows[one], rows[two], bridge))
                present = rows[one]
                for at, by in bridge:
                    self.assertEqual(by, 1)
                    self.assertTrue(is_across(pond, lower, upper, present, at))
                    present = exchange(pond, lower, present, at, by=by)

    def test_ten_lots(self):
        schedule, parts = split_history(TEN, TEN_WORLD, WHOLE, TEN_ROW)
        other = mix_history(TEN, TEN_WORLD, WHOLE, schedule[::-1], parts)
        bridge = kin_bridge(TEN, TEN_WORLD, WHOLE, TEN_ROW, other)
        self.assertEqual(len(bridge), distance_by_words(schedule, schedule[::-1]))
        self.assertEqual(exchange_all(TEN, TEN_WORLD, TEN_ROW, bridge), other)


def distance_by_words(schedule, other):
    """Point 36: the pairs of deeds of different small ponds that are done in opposite orders."""
    def marked(row):
        return [(index, row[:at].count(index)) for at, index in enumerate(row)]

    first, second = marked(schedule), marked(other)
    return len([
        1 for one, two in itertools.combinations(first, 2)
        if one[0] != two[0] and second.index(one) > second.index(two)
    ])


def shortest_by_words(pond, lower, first, second):
    """Of the bridges with the fewest exchanges the first one, all of them tried in order."""
    for many in range(10):
        steps = list(itertools.product(range(max(0, len(first) - 1)), (1, 2)))
        for bridge in itertools.product(steps, repeat=many):
            present = first
            for at, by in bridge:
                present = exchange(pond, lower, present, at, by=by)
            if present == second:
                return list(bridge)
    return None


class TestLeastBridge(PromiseCase):
    def test_least_bridge(self):
        first = [("c", "b"), ("e", "d"), ("c", "a")]
        roads = (OTHER, OTHER_SINGLES, OTHER_UPPER)
        self.gives([(1, 1)], least_bridge, *roads, first, [("b", "c"), ("a", "c"), ("d", "e")])
        self.gives([], least_bridge, *roads, first, [("b", "c"), ("d", "e"), ("a", "b")])
        self.gives([(1, 1), (0, 1)], least_bridge, pond=OTHER, lower=OTHER_SINGLES,
                   upper=OTHER_UPPER, first=tuple(first), second=(("a", "b"), ("a", "c"), ("d", "e")))
        self.gives([], least_bridge, SIX, LOW, LOW, [], ())
        self.gives([], least_bridge, ALONE, ONLY, ONLY, [], [])
        three = Pond(["a", "b", "c"])
        singles = (("a",), ("b",), ("c",))
        self.gives([(0, 2)], least_bridge, three, singles, (three.names,), [("a", "b"), ("a", "c")],
                   [("b", "c"), ("a", "b")])

    def test_too_many(self):
        rows = histories(FOUR, FOUR_SINGLES, (FOUR.names,))
        self.assertEqual(len(rows), 16)
        self.gives([], least_bridge, FOUR, FOUR_SINGLES, (FOUR.names,), rows[3], rows[3])
        pairs = (("j", "i"), ("h", "g"), ("f", "e"), ("d", "c"), ("b",), ("a",))
        for upper, count in ((pairs, 24), (one_field(5), 125), (WHOLE, 10 ** 8)):
            self.assertEqual(count_histories(TEN, TEN_SINGLES, upper), count)
            told = {"count": count, "limit": 16}
            for row in ([], [("x", "x")]):
                self.refuses(TooMany, told, least_bridge, TEN, TEN_SINGLES, upper, row, row)

    def test_by_its_words(self):
        for pond, lower, upper in all_roads(4):
            rows = histories(pond, lower, upper)
            far = rows if len(rows) < 16 else rows[::5]
            for first, second in itertools.product(rows, far):
                bridge = least_bridge(pond, lower, upper, first, second)
                self.assertEqual(exchange_all(pond, lower, first, bridge), second)
                if len(rows) < 16 or (first in far and not pond.strifes):
                    expected = shortest_by_words(pond, lower, first, second)
                    self.assertEqual(bridge, expected)
                kin = kin_distance(pond, lower, upper, first, second)
                if kin is not None:
                    self.assertEqual(len(bridge), kin)


class TestFaults(PromiseCase):
    """What is common to the entries that take histories from lower to upper."""

    def test_faults_of_worlds(self):
        row = [("x", "x")]
        self.refuses_roads(is_across, [row, -1])
        for entry in (sorted_row, sorting_bridge):
            self.refuses_roads(entry, [row])
        for entry in (kin_paper, kin_distance, kin_bridge, least_bridge):
            self.refuses_roads(entry, [row, row])

    def test_refused_deeds(self):
        upper = (("c",), ("a", "e", "b"), ("d",))
        right = [("a", "e"), ("a", "b")]
        refuses_rows(self, is_across, [-1], [upper])
        for entry in (sorted_row, sorting_bridge):
            refuses_rows(self, entry, [], [upper])
        for entry in (kin_paper, kin_distance, kin_bridge, least_bridge):
            refuses_rows(self, entry, [[("x", "x")]], [upper])
            refuses_rows(self, entry, [[]], [upper])
            refuses_rows(self, entry, [], [upper, right])

    def test_ends_differ(self):
        upper = (("f", "a", "e"), ("b", "d"), ("c",))
        right = [("f", "a")]
        rows = [[], [("b", "c")], [("f", "a"), ("b", "c")], [("b", "f")], [("c", "d"), ("f", "a")]]
        bare = SIX.bare()
        for row in rows:
            self.refuses(EndsDiffer, {}, is_across, bare, LOW, upper, row, -1)
            for entry in (sorted_row, sorting_bridge):
                self.refuses(EndsDiffer, {}, entry, bare, LOW, upper, row)
            for entry in (kin_paper, kin_distance, kin_bridge, least_bridge):
                self.refuses(EndsDiffer, {}, entry, bare, LOW, upper, row, [("x", "x")])
                self.refuses(EndsDiffer, {}, entry, bare, LOW, upper, row, row)
                self.refuses(EndsDiffer, {}, entry, bare, LOW, upper, right, row)

    def test_bridges_keep_the_worlds(self):
        for world in all_worlds(FOUR):
            row = history(FOUR, FOUR_SINGLES, world)
            for at in range(len(row) - 1):
                before = passed_by(FOUR, FOUR_SINGLES, row)
                after = passed_by(FOUR, FOUR_SINGLES, exchange_all(FOUR, FOUR_SINGLES, row, [(at, 1)]))
                differ = [place for place, one in enumerate(before) if one != after[place]]
                self.assertEqual(differ, [at + 1])


if __name__ == "__main__":
    unittest.main()
