"""chains.py: points 20 and 34."""

import itertools
import unittest
from math import factorial

from hedgejoin.chains import (
    count_histories, count_mixes, first_deeds, histories, history_at, pond_histories,
    rank_history,
)
from hedgejoin.deeds import join
from hedgejoin.errors import BadSize, EndsDiffer, OutOfRange, StepRefused, TooMany
from hedgejoin.ponds import Pond
from hedgejoin.roads import history, next_deeds
from hedgejoin.rows import is_history, plain_row
from hedgejoin.smalls import small_ponds
from tests.helpers import (
    ALONE, HIGH, HUGE, LOW, ONLY, SINGLES, SIX, TEN, TEN_SINGLES, WHOLE, WITH_STRIFES, PromiseCase,
    all_roads, one_field, rows_between,
)
from tests.test_rows import FIVE, REFUSED, SINGLES as FIVE_SINGLES

FOUR = Pond(["a", "b", "c", "d"])
FOUR_SINGLES = (("a",), ("b",), ("c",), ("d",))
PAIRS = (("a", "b"), ("c", "d"))


class TestNumbers(PromiseCase):
    def test_pond_histories(self):
        known = [1, 1, 3, 16, 125, 1296, 16807, 262144, 4782969, 100000000]
        for size, many in enumerate(known, 1):
            self.gives(many, pond_histories, size)
        self.gives(3, pond_histories, size=3)

    def test_sizes_of_no_pond(self):
        for size in (-1, 11, 12, HUGE, -HUGE):
            self.refuses(OutOfRange, {"value": size, "limit": 11}, pond_histories, size)
        self.refuses(BadSize, {"size": 0}, pond_histories, 0)
        self.refuses(BadSize, {"size": 0}, pond_histories, size=0)

    def test_count_mixes(self):
        self.gives(1, count_mixes, [])
        self.gives(1, count_mixes, ())
        self.gives(1, count_mixes, [0])
        self.gives(1, count_mixes, [20])
        self.gives(1, count_mixes, [0] * 200)
        self.gives(6, count_mixes, (2, 2))
        self.gives(60, count_mixes, lengths=[1, 2, 0, 3])
        self.gives(factorial(20), count_mixes, (1,) * 20)
        self.gives(184756, count_mixes, [10, 10])

    def test_count_mixes_by_its_words(self):
        for lengths in itertools.product(range(4), repeat=3):
            labels = [at for at, length in enumerate(lengths) for _ in range(length)]
            if len(labels) <= 7:
                orders = set(itertools.permutations(labels))
                self.assertEqual(count_mixes(lengths), len(orders))

    def test_sums_over_twenty(self):
        for lengths, count in (([21], 21), ([10, 11], 21), ((1,) * 21, 21), ([0, 20, 0, 2], 22),
                               ([HUGE], HUGE), ([3] * 200, 600)):
            self.refuses(TooMany, {"count": count, "limit": 20}, count_mixes, lengths)

    def test_count_histories(self):
        self.gives(2, count_histories, FOUR, FOUR_SINGLES, PAIRS)
        self.gives(2, count_histories, SIX, LOW, HIGH)
        self.gives(54, count_histories, pond=SIX, lower=SINGLES, upper=HIGH)
        self.gives(1, count_histories, SIX, LOW, LOW)
        self.gives(1, count_histories, ALONE, ONLY, ONLY)
        self.gives(100000000, count_histories, TEN, TEN_SINGLES, WHOLE)
        self.refuses_roads(count_histories)

    def test_by_the_formula(self):
        for pond, lower, upper in all_roads(5):
            sizes = [len(lots) for lots in small_ponds(pond, lower, upper)]
            expected = count_mixes([size - 1 for size in sizes])
            for size in sizes:
                expected = expected * pond_histories(size)
            self.assertEqual(count_histories(pond, lower, upper), expected)

    def test_single_lots_to_one_field(self):
        for size in range(1, 11):
            names = TEN.names[:size]
            pond = Pond(names)
            singles = tuple([(lot,) for lot in names])
            self.assertEqual(count_histories(pond, singles, (names,)), pond_histories(size))


class TestFirstDeeds(PromiseCase):
    def test_first_deeds(self):
        expected = [(("a", "b"), 1), (("c", "d"), 1)]
        self.gives(expected, first_deeds, FOUR, FOUR_SINGLES, PAIRS)
        expected = [(("f", "a"), 1), (("b", "c"), 1)]
        self.gives(expected, first_deeds, pond=SIX, lower=LOW, upper=HIGH)
        self.gives([], first_deeds, SIX, LOW, LOW)
        self.gives([], first_deeds, ALONE, ONLY, ONLY)
        self.refuses_roads(first_deeds)

    def test_ten_lots(self):
        found = first_deeds(TEN, TEN_SINGLES, WHOLE)
        self.assertEqual([deed for deed, _ in found], next_deeds(TEN, TEN_SINGLES, WHOLE))
        self.assertEqual(sum(many for _, many in found), 10 ** 8)
        self.assertEqual(found[0], (("j", "i"), 9 ** 7))

    def test_against_histories(self):
        for pond, lower, upper in all_roads(4):
            firsts = [row[0] for row in histories(pond, lower, upper) if row]
            expected = [
                (deed, firsts.count(deed)) for deed in next_deeds(pond, lower, upper)
            ]
            self.assertEqual(first_deeds(pond, lower, upper), expected)


class TestHistories(PromiseCase):
    def test_histories(self):
        rows = [[("a", "b"), ("c", "d")], [("c", "d"), ("a", "b")]]
        self.gives(rows, histories, FOUR, FOUR_SINGLES, PAIRS)
        three = Pond(["a", "b", "c"])
        rows = [[("a", "b"), ("a", "c")], [("a", "c"), ("a", "b")], [("b", "c"), ("a", "b")]]
        singles = (("a",), ("b",), ("c",))
        self.gives(rows, histories, pond=three, lower=singles, upper=(three.names,))
        self.gives([[]], histories, SIX, LOW, LOW)
        self.gives([[]], histories, ALONE, ONLY, ONLY)
        self.refuses_roads(histories)

    def test_pair_order_is_not_the_order_of_the_alphabet(self):
        pond = Pond(["c", "a", "b"])
        rows = [[("c", "a"), ("c", "b")], [("c", "b"), ("c", "a")], [("a", "b"), ("c", "a")]]
        self.gives(rows, histories, pond, (("c",), ("a",), ("b",)), (pond.names,))

    def test_too_many(self):
        self.assertEqual(len(histories(TEN, TEN_SINGLES, one_field(5))), 125)
        fields = tuple([TEN.names[at:at + 2] for at in range(0, 10, 2)])
        self.assertEqual(len(histories(TEN, TEN_SINGLES, fields)), 120)
        more = (TEN.names[:3], *[TEN.names[at:at + 2] for at in (3, 5, 7)], ("a",))
        cases = ((one_field(6), 1296), (more, 180), (WHOLE, 10 ** 8))
        for upper, count in cases:
            told = {"count": count, "limit": 125}
            self.refuses(TooMany, told, histories, TEN, TEN_SINGLES, upper)

    def test_by_their_words(self):
        for pond, lower, upper in all_roads(4):
            rows = rows_between(pond, lower, upper)
            found = histories(pond, lower, upper)
            self.assertEqual(found, rows)
            self.assertEqual(len(found), count_histories(pond, lower, upper))
            self.assertEqual(found[0], history(pond, lower, upper))
            for row in found:
                self.assertTrue(is_history(pond, lower, upper, row))
                self.assertEqual(plain_row(pond, lower, row), row)

    def test_strifes_do_not_matter(self):
        for pond, lower, upper in all_roads(4):
            if pond.strifes:
                expected = histories(pond.bare(), lower, upper)
                self.assertEqual(histories(pond, lower, upper), expected)


class TestRanks(PromiseCase):
    def test_rank_history(self):
        self.gives(0, rank_history, FOUR, FOUR_SINGLES, PAIRS, [("b", "a"), ("c", "d")])
        self.gives(1, rank_history, FOUR, FOUR_SINGLES, PAIRS, (["d", "c"], ["a", "b"]))
        self.gives(1, rank_history, pond=SIX, lower=LOW, upper=HIGH, row=[("c", "d"), ("e", "a")])
        self.gives(0, rank_history, SIX, LOW, LOW, [])
        self.gives(0, rank_history, ALONE, ONLY, ONLY, ())
        last = [(TEN.names[at], TEN.names[7]) for at in range(6, -1, -1)]
        self.gives(8 ** 6 - 1, rank_history, TEN, TEN_SINGLES, one_field(8), last)

    def test_history_at(self):
        self.gives([("a", "b"), ("c", "d")], history_at, FOUR, FOUR_SINGLES, PAIRS, 0)
        self.gives([("c", "d"), ("a", "b")], history_at, FOUR, FOUR_SINGLES, PAIRS, 1)
        self.gives([("b", "c"), ("f", "a")], history_at, pond=SIX, lower=LOW, upper=HIGH, rank=1)
        self.gives([], history_at, SIX, LOW, LOW, 0)
        self.gives([], history_at, ALONE, ONLY, ONLY, 0)
        last = [(TEN.names[at], TEN.names[at + 1]) for at in range(6, -1, -1)]
        self.gives(last, history_at, TEN, TEN_SINGLES, one_field(8), 8 ** 6 - 1)

    def test_against_histories(self):
        for pond, lower, upper in all_roads(4):
            for rank, row in enumerate(histories(pond, lower, upper)):
                self.assertEqual(rank_history(pond, lower, upper, row), rank)
                self.assertEqual(history_at(pond, lower, upper, rank), row)

    def test_ranks_of_many_lots_come_back(self):
        fields = (TEN.names[:5], TEN.names[5:9], ("a",))
        for upper, many in ((one_field(8), 8 ** 6), (fields, 35 * 125 * 16)):
            self.assertEqual(count_histories(TEN, TEN_SINGLES, upper), many)
            for rank in range(0, many, many // 12):
                row = history_at(TEN, TEN_SINGLES, upper, rank)
                self.assertEqual(rank_history(TEN, TEN_SINGLES, upper, row), rank)

    def test_more_than_seven_deeds(self):
        nine = (TEN.names[:5], TEN.names[5:])
        for upper, count in ((one_field(9), 8), (WHOLE, 9), (nine, 8)):
            told = {"count": count, "limit": 7}
            self.refuses(TooMany, told, rank_history, TEN, TEN_SINGLES, upper, [("x", "x")])
            self.refuses(TooMany, told, rank_history, TEN, TEN_SINGLES, upper, [])
            self.refuses(TooMany, told, history_at, TEN, TEN_SINGLES, upper, -1)
            self.refuses(TooMany, told, history_at, TEN, TEN_SINGLES, upper, 0)

    def test_faults_of_rows(self):
        upper = (("c",), ("a", "e", "b", "d"))
        for row, place, cause in REFUSED:
            attributes = {"place": place, "cause": cause}
            self.refuses(StepRefused, attributes, rank_history, FIVE, FIVE_SINGLES, upper, row)
            self.refuses(StepRefused, attributes, rank_history, FIVE, FIVE_SINGLES, FIVE_SINGLES, row)
        self.refuses_roads(rank_history, [[("x", "x")]])

    def test_rows_that_do_not_lead_to_upper(self):
        rows = [
            [], [("f", "a")], [("b", "c")], [("f", "a"), ("b", "e")], [("b", "f")],
            [("f", "a"), ("d", "c"), ("b", "f")],
        ]
        bare = SIX.bare()
        for row in rows:
            self.refuses(EndsDiffer, {}, rank_history, bare, LOW, HIGH, row)
        self.refuses(EndsDiffer, {}, rank_history, SIX, LOW, LOW, [("f", "a")])
        self.refuses(EndsDiffer, {}, rank_history, FOUR, FOUR_SINGLES, PAIRS, [("a", "c")])

    def test_out_of_range(self):
        for rank in (-1, 2, 3, HUGE, -HUGE):
            told = {"value": rank, "limit": 2}
            self.refuses(OutOfRange, told, history_at, SIX, LOW, HIGH, rank)
        for rank in (-1, 1):
            self.refuses(OutOfRange, {"value": rank, "limit": 1}, history_at, SIX, LOW, LOW, rank)
        told = {"value": 8 ** 6, "limit": 8 ** 6}
        self.refuses(OutOfRange, told, history_at, TEN, TEN_SINGLES, one_field(8), 8 ** 6)
        self.refuses_roads(history_at, [-1])


class TestChainFacts(PromiseCase):
    def test_the_first_deed_leaves_the_rest_of_the_histories(self):
        pond = WITH_STRIFES[3]
        for own, lower, upper in all_roads(5):
            if own is pond:
                for (x, y), many in first_deeds(pond, lower, upper):
                    after = join(pond, lower, x, y)
                    self.assertEqual(count_histories(pond, after, upper), many)


if __name__ == "__main__":
    unittest.main()
