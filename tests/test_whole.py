"""Points 2 and 5 over the whole program."""

import unittest

from hedgejoin.book import Book, rebuild
from hedgejoin.counts import all_worlds
from hedgejoin.diary import Diary
from hedgejoin.ends import ends, fewest_end
from hedgejoin.errors import BadParting, TooMany
from hedgejoin.orders import orders_part, outcome, run_order
from hedgejoin.partings import single_world
from hedgejoin.ponds import Pond
from hedgejoin.strifes import (
    costly_deeds, end_counts, is_lift, least_lift, reach_number, row_counts, thrifty_row,
)
from hedgejoin.wishes import Wish, least_cure
from tests.helpers import TEN, PromiseCase, shown

BAD_ORDER = (("join", "?", "?"),)


def many_may(pond):
    return Wish(pond).may()


def many_granting(pond):
    return Wish(pond).granting()


def many_greatest(pond):
    return Wish(pond).greatest()


# Each entry with "at most N lots": N, and whether a world follows, then further arguments, each
# right and wrong, and at last what follows by keyword, right and wrong.
LIMITED = [
    (all_worlds, 7, False, ((), ()), ({}, {})),
    (many_may, 7, False, ((), ()), ({}, {})),
    (many_granting, 6, False, ((), ()), ({}, {})),
    (many_greatest, 5, False, ((), ()), ({}, {})),
    (ends, 5, True, ((), ()), ({}, {})),
    (fewest_end, 5, True, ((), ()), ({}, {})),
    (least_lift, 5, True, ((), ()), ({"fields": 1}, {"fields": 0})),
    (is_lift, 5, True, (([],), ([("?", "?")],)), ({"fields": 1}, {"fields": 0})),
    (reach_number, 5, True, ((), ()), ({}, {})),
    (costly_deeds, 5, True, ((), ()), ({}, {})),
    (thrifty_row, 5, True, ((), ()), ({}, {})),
    (end_counts, 5, True, ((), ()), ({}, {})),
    (row_counts, 5, True, ((), ()), ({}, {})),
    (least_cure, 7, True, ((), ()), ({}, {})),
    (run_order, 7, True, (((),), (BAD_ORDER,)), ({}, {})),
    (outcome, 7, True, (((),), (BAD_ORDER,)), ({}, {})),
    (orders_part, 4, False, (((), ()), (BAD_ORDER, BAD_ORDER)), ({}, {})),
    (Diary, 5, False, ((1,), (0,)), ({"start": None}, {"start": ()})),
]


class TestLimits(PromiseCase):
    def test_more_lots_than_the_limit(self):
        for entry, limit, with_world, (right, wrong), (named, misnamed) in LIMITED:
            for many in range(limit + 1, 11):
                pond = Pond(TEN.names[:many])
                attributes = {"count": many, "limit": limit}
                world, no_world = ([single_world(pond)], [()]) if with_world else ([], [])
                self.refuses(TooMany, attributes, entry, pond, *world, *right, **named)
                # Ahead of all other faults.
                self.refuses(TooMany, attributes, entry, pond, *no_world, *wrong, **misnamed)

    def test_as_many_lots_as_the_limit(self):
        for entry, limit, with_world, (right, _), (named, _) in LIMITED:
            for many in range(1, limit + 1):
                pond = Pond(TEN.names[:many])
                world = [single_world(pond)] if with_world else []
                first = shown(entry(pond, *world, *right, **named))
                self.assertEqual(shown(entry(pond, *world, *right, **named)), first)
                if with_world:
                    self.refuses(BadParting, {}, entry, pond, (), *right, **named)


class TestLists(PromiseCase):
    """A list may be passed wherever a row is due, and a tuple as well."""

    def test_lists_and_tuples_give_the_same(self):
        pond = Pond(["a", "b", "c", "d"], strifes=[["a", "b"]])
        self.assertEqual(shown(pond), shown(Pond(("a", "b", "c", "d"), strifes=(("b", "a"),))))
        wishes = [Wish(pond, together=[["c", "a"]], apart=[["d", "b"]]),
                  Wish(pond, together=(("c", "a"),), apart=(("d", "b"),))]
        self.assertEqual(shown(wishes[0]), shown(wishes[1]))
        rows = [("deed", "a", "c"), ("go", "d")]
        start = single_world(pond)
        self.assertEqual(shown(rebuild(pond, start, rows)), shown(rebuild(pond, start, tuple(rows))))

    def test_ponds_of_results_are_equal_by_what_they_hold(self):
        pond = Pond(["a", "b", "c"], strifes=[("a", "b")])
        book = Book(pond)
        book.lift("a", "b")
        self.assertTrue(book.pond.same_as(pond.bare()))
        self.assertTrue(book.state_at(0)[0].same_as(pond))


if __name__ == "__main__":
    unittest.main()
