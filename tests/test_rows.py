"""rows.py: points 20 and 21."""

import inspect
import unittest

from hedgejoin.deeds import deeds, join
from hedgejoin.errors import AtStrife, BadParting, Crossing, OutOfRange, StepRefused
from hedgejoin.ponds import Pond
from hedgejoin.rows import (
    exchange, is_history, plain_row, replay, same_history, steps, trace, ways_at,
)
from tests.helpers import HUGE, PromiseCase, all_worlds, lies_within, small_ponds

FIVE = Pond(["c", "a", "e", "b", "d"], strifes=[("d", "c")])
SINGLES = (("c",), ("a",), ("e",), ("b",), ("d",))
ROW = [("e", "a"), ["b", "e"], ("e", "d")]
PLAIN = [("a", "e"), ("a", "b"), ("a", "d")]
WORLDS = [
    SINGLES,
    (("c",), ("a", "e"), ("b",), ("d",)),
    (("c",), ("a", "e", "b"), ("d",)),
    (("c",), ("a", "e", "b", "d")),
]
ALONE = Pond(["a"])
THREE = Pond(["a", "b", "c"])
THREE_SINGLES = (("a",), ("b",), ("c",))
TEN = Pond(["j", "i", "h", "g", "f", "e", "d", "c", "b", "a"])

NO_PARTING = (("a",), ("c",), ("e",), ("b",), ("d",))
CROSSING = (("c", "e", "d"), ("a", "b"))
WITH_STRIFE = (("c", "d"), ("a",), ("e",), ("b",))

# Each is refused at the place, for the cause, when it is replayed from SINGLES.
REFUSED = [
    ([("x", "y")], 0, ("unknown", "x")),
    ([("a", "e"), ("a", "y"), ("x", "x")], 1, ("unknown", "y")),
    ([["a", "e"], ["e", "a"]], 1, ("same", ("e", "a"))),
    ([("a", "a")], 0, ("same", ("a", "a"))),
    ([("e", "c"), ("b", "a"), ("x", "x")], 1, ("crossed", ("c", "e"))),
    ([("e", "c"), ("a", "a"), ("b", "a")], 1, ("same", ("a", "a"))),
    ((("a", "d"), ("e", "b"), ("a", "c")), 2, ("strife", ("c", "d"))),
    ([("d", "c"), ("a", "a")], 0, ("strife", ("c", "d"))),
]


def refuses_no_world(case, entry, *more):
    case.refuses(BadParting, {}, entry, FIVE, NO_PARTING, *more)
    case.refuses(Crossing, {"lots": ("c", "a", "e", "b")}, entry, FIVE, CROSSING, *more)
    case.refuses(AtStrife, {"pair": ("c", "d")}, entry, FIVE, WITH_STRIFE, *more)


def refuses_rows(case, entry, *more):
    for row, place, cause in REFUSED:
        attributes = {"place": place, "cause": cause}
        case.refuses(StepRefused, attributes, entry, FIVE, SINGLES, row, *more)


def all_steps(pond, world, row):
    return list(steps(pond, world, row))


class TestReplaying(PromiseCase):
    def test_replay(self):
        self.gives(WORLDS[3], replay, FIVE, SINGLES, ROW)
        self.gives(WORLDS[3], replay, FIVE, WORLDS[1], (("d", "b"), ["d", "a"]))
        self.gives(SINGLES, replay, FIVE, SINGLES, [])
        self.gives(WORLDS[1], replay, pond=FIVE, world=SINGLES, row=(("a", "e"),))
        self.gives((("a",),), replay, ALONE, (("a",),), ())

    def test_trace(self):
        self.gives(WORLDS, trace, FIVE, SINGLES, ROW)
        self.gives([SINGLES], trace, FIVE, SINGLES, ())
        self.gives(WORLDS[1:], trace, FIVE, WORLDS[1], (["b", "a"], ("d", "b")))
        self.gives(WORLDS[:2], trace, pond=FIVE, world=SINGLES, row=[["e", "a"]])

    def test_plain_row(self):
        self.gives(PLAIN, plain_row, FIVE, SINGLES, ROW)
        self.gives(PLAIN, plain_row, FIVE, SINGLES, tuple(ROW))
        self.gives([], plain_row, pond=FIVE, world=SINGLES, row=[])
        self.gives([("c", "b"), ("c", "a")], plain_row, FIVE, WORLDS[1], [("b", "c"), ("e", "b")])

    def test_steps(self):
        told = [(place, PLAIN[place], WORLDS[place + 1]) for place in range(3)]
        self.gives(told, all_steps, FIVE, SINGLES, ROW)
        self.gives([], all_steps, FIVE, SINGLES, ())
        self.gives(told[:1], all_steps, pond=FIVE, world=SINGLES, row=[["e", "a"]])
        self.assertTrue(inspect.isgeneratorfunction(steps))
        self.assertEqual(next(steps(FIVE, SINGLES, ROW)), told[0])

    def test_steps_raises_when_the_first_item_is_asked_for(self):
        for row, place, cause in REFUSED:
            made = steps(FIVE, SINGLES, row)
            with self.assertRaises(StepRefused) as caught:
                next(made)
            self.assertEqual(caught.exception.place, place)
            self.assertEqual(caught.exception.cause, cause)
        for world, kind in ((NO_PARTING, BadParting), (CROSSING, Crossing), (WITH_STRIFE, AtStrife)):
            made = steps(FIVE, world, [("x", "x")])
            with self.assertRaises(kind):
                next(made)

    def test_faults(self):
        for entry in (replay, trace, plain_row, all_steps):
            refuses_no_world(self, entry, [("x", "x")])
            refuses_rows(self, entry)

    def test_a_long_row_of_all_deeds(self):
        row = [(lot, "j") for lot in TEN.names[1:]]
        singles = tuple([(lot,) for lot in TEN.names])
        self.gives((TEN.names,), replay, TEN, singles, row)
        self.gives([("j", lot) for lot in TEN.names[1:]], plain_row, TEN, singles, row)


class TestHistories(PromiseCase):
    def test_is_history(self):
        self.gives(True, is_history, FIVE, SINGLES, WORLDS[3], ROW)
        self.gives(True, is_history, pond=FIVE, start=WORLDS[1], end=WORLDS[3], row=tuple(ROW[1:]))
        self.gives(False, is_history, FIVE, SINGLES, WORLDS[3], ROW[:2])
        self.gives(False, is_history, FIVE, SINGLES, WORLDS[2], ROW)
        self.gives(True, is_history, FIVE, SINGLES, SINGLES, [])
        self.gives(False, is_history, FIVE, SINGLES, WORLDS[1], ())

    def test_it_never_raises_for_the_row_or_for_start_and_end(self):
        for row, _, _ in REFUSED:
            self.gives(False, is_history, FIVE, SINGLES, WORLDS[3], row)
        self.gives(False, is_history, FIVE, WORLDS[3], SINGLES, [])
        self.gives(False, is_history, FIVE, WORLDS[3], SINGLES, [("a", "c")])
        self.gives(False, is_history, FIVE, WORLDS[1], (("c", "a"), ("e",), ("b",), ("d",)), [])

    def test_faults_of_is_history(self):
        refuses_no_world(self, is_history, NO_PARTING, [("x", "x")])
        self.refuses(BadParting, {}, is_history, FIVE, SINGLES, NO_PARTING, [("x", "x")])
        self.refuses(
            Crossing, {"lots": ("c", "a", "e", "b")},
            is_history, FIVE, SINGLES, CROSSING, [("x", "x")],
        )
        self.refuses(
            AtStrife, {"pair": ("c", "d")}, is_history, FIVE, SINGLES, WITH_STRIFE, [("x", "x")]
        )

    def test_same_history(self):
        self.gives(True, same_history, FIVE, SINGLES, ROW, PLAIN)
        self.gives(True, same_history, pond=FIVE, world=SINGLES, first=tuple(PLAIN), second=ROW)
        self.gives(True, same_history, FIVE, SINGLES, [], ())
        self.gives(False, same_history, FIVE, SINGLES, ROW, ROW[:2])
        self.gives(False, same_history, FIVE, SINGLES, [], ROW)
        other = [("e", "b"), ("a", "e"), ("e", "d")]
        self.gives(False, same_history, FIVE, SINGLES, ROW, other)

    def test_faults_of_same_history(self):
        refuses_no_world(self, same_history, [("x", "x")], [("y", "y")])
        good = [("a", "e"), ("a", "b"), ("y", "a")]
        bad = [("x", "a")]
        unknown_y = {"place": 2, "cause": ("unknown", "y")}
        unknown_x = {"place": 0, "cause": ("unknown", "x")}
        self.refuses(StepRefused, unknown_y, same_history, FIVE, SINGLES, good, bad)
        self.refuses(StepRefused, unknown_x, same_history, FIVE, SINGLES, bad, good)
        self.refuses(StepRefused, unknown_x, same_history, FIVE, SINGLES, [], bad)
        refuses_rows(self, same_history, [("x", "x")])


class TestWays(PromiseCase):
    THREE_WAYS = [
        (("a", "b"), ("a", "c")),
        (("a", "c"), ("a", "b")),
        (("b", "c"), ("a", "b")),
    ]

    def test_three_ways(self):
        for row in ([("b", "a"), ("c", "b")], [["c", "a"], ["a", "b"]], (("b", "c"), ("c", "a"))):
            self.gives(self.THREE_WAYS, ways_at, THREE, THREE_SINGLES, row, 0)
        self.gives(
            self.THREE_WAYS, ways_at, pond=THREE, world=THREE_SINGLES, row=[("a", "b"), ("a", "c")], at=0
        )

    def test_two_ways(self):
        row = [("a", "e"), ("b", "d"), ("c", "a")]
        ways = [(("a", "e"), ("b", "d")), (("b", "d"), ("a", "e"))]
        self.gives(ways, ways_at, FIVE, SINGLES, row, 0)
        self.gives([(("c", "a"), ("b", "d")), (("b", "d"), ("c", "a"))], ways_at, FIVE, SINGLES, row, 1)
        nested = Pond(["a", "b", "c", "d"])
        before = (("a", "c"), ("b",), ("d",))
        self.gives(
            [(("a", "b"), ("a", "d")), (("a", "d"), ("a", "b"))],
            ways_at, nested, before, [("a", "d"), ("b", "d")], 0,
        )

    def test_by_their_words(self):
        for pond in [*small_ponds(4), FIVE]:
            for before in all_worlds(pond):
                ways = {}
                for one in deeds(pond, before):
                    middle = join(pond, before, *one)
                    for two in deeds(pond, middle):
                        after = join(pond, middle, *two)
                        ways.setdefault(after, []).append((one, two))
                for after, found in ways.items():
                    self.assertIn(len(found), (2, 3))
                    self.assertTrue(lies_within(before, after))
                    for way in found:
                        self.assertEqual(ways_at(pond, before, list(way), 0), found)

    def test_exchange(self):
        row = [("b", "a"), ("c", "b")]
        self.gives([("a", "c"), ("a", "b")], exchange, THREE, THREE_SINGLES, row, 0)
        self.gives([("b", "c"), ("a", "b")], exchange, THREE, THREE_SINGLES, row, 0, by=2)
        self.gives([("b", "c"), ("a", "b")], exchange, THREE, THREE_SINGLES, row, 0, by=-1)
        self.gives([("a", "b"), ("a", "c")], exchange, THREE, THREE_SINGLES, row, 0, by=0)
        self.gives([("a", "b"), ("a", "c")], exchange, THREE, THREE_SINGLES, row, 0, by=3)
        self.gives([("a", "b"), ("a", "c")], exchange, THREE, THREE_SINGLES, row, 0, by=-999)
        self.gives([("a", "c"), ("a", "b")], exchange, THREE, THREE_SINGLES, row, 0, by=1000)
        self.gives(
            [("a", "b"), ("a", "c")],
            exchange, pond=THREE, world=THREE_SINGLES, row=(["b", "c"], ["c", "a"]), at=0,
        )

    def test_exchange_in_a_longer_row(self):
        row = [("a", "e"), ("b", "d"), ("e", "c")]
        self.gives([("b", "d"), ("a", "e"), ("c", "a")], exchange, FIVE, SINGLES, row, 0)
        self.gives([("a", "e"), ("c", "a"), ("b", "d")], exchange, FIVE, SINGLES, row, 1)
        self.gives([("a", "e"), ("b", "d"), ("c", "a")], exchange, FIVE, SINGLES, row, 1, by=2)
        self.gives([("a", "e"), ("b", "d"), ("c", "a")], exchange, FIVE, SINGLES, tuple(row), 0, by=4)
        self.gives([("a", "e"), ("a", "d"), ("a", "b")], exchange, FIVE, SINGLES, ROW, 1)
        self.gives([("a", "b"), ("a", "e"), ("a", "d")], exchange, FIVE, SINGLES, ROW, 0)
        self.gives([("e", "b"), ("a", "e"), ("a", "d")], exchange, FIVE, SINGLES, ROW, 0, by=-1)

    def test_places_out_of_range(self):
        for entry in (ways_at, exchange):
            for at in (-1, 2, 3, HUGE, -HUGE):
                self.refuses(OutOfRange, {"value": at, "limit": 2}, entry, FIVE, SINGLES, ROW, at)
            for row in ([], [("a", "e")]):
                for at in (0, 1, -1):
                    self.refuses(OutOfRange, {"value": at, "limit": 0}, entry, FIVE, SINGLES, row, at)
            two = [("a", "e"), ("a", "b")]
            self.refuses(OutOfRange, {"value": 1, "limit": 1}, entry, FIVE, SINGLES, two, 1)

    def test_the_whole_row_comes_before_the_place(self):
        for entry in (ways_at, exchange):
            refuses_no_world(self, entry, [("x", "x")], -1)
            refuses_rows(self, entry, -1)
            refuses_rows(self, entry, 0)


if __name__ == "__main__":
    unittest.main()
