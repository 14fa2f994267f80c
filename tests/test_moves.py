"""moves.py: point 16."""

import itertools
import operator
import unittest

from hedgejoin.errors import BadParting, BadSize, OutOfRange, UnknownLot
from hedgejoin.moves import Likeness, likeness_of, move, move_pond, restart, same_place
from hedgejoin.ponds import Pond
from tests.helpers import (
    HUGE, PromiseCase, all_partings, is_together, pairs_in_order, shown, small_ponds,
)

FIVE = Pond(["c", "a", "e", "b", "d"], strifes=[("c", "b"), ("a", "d")])
TEN = ["j", "i", "h", "g", "f", "e", "d", "c", "b", "a"]


def all_likenesses(size):
    """All likenesses of the size, in likeness order."""
    return [
        Likeness(size, shift=shift, flipped=flipped)
        for flipped in (False, True)
        for shift in range(size)
    ]


def table(likeness):
    return [likeness(at) for at in range(likeness.size)]


class TestLikeness(PromiseCase):
    def test_size_shift_flipped_and_key(self):
        turn = Likeness(5, shift=3)
        self.gives(5, getattr, turn, "size")
        self.gives(3, getattr, turn, "shift")
        self.gives(False, getattr, turn, "flipped")
        self.gives((3, False), getattr, turn, "key")
        flip = Likeness(size=4, shift=1, flipped=True)
        self.gives(4, getattr, flip, "size")
        self.gives(1, getattr, flip, "shift")
        self.gives(True, getattr, flip, "flipped")
        self.gives((1, True), getattr, flip, "key")
        self.gives((0, False), getattr, Likeness(10), "key")

    def test_shifts_are_kept_mod_size(self):
        self.gives((4, False), getattr, Likeness(5, shift=-1), "key")
        self.gives((0, True), getattr, Likeness(5, shift=5, flipped=True), "key")
        self.gives((1, False), getattr, Likeness(3, shift=1000), "key")
        self.gives((2, False), getattr, Likeness(3, shift=-1000), "key")
        self.gives((0, True), getattr, Likeness(1, shift=7, flipped=True), "key")
        self.gives((1, False), getattr, Likeness(2, shift=-3), "key")

    def test_sizes(self):
        for size in range(1, 11):
            self.gives(size, getattr, Likeness(size), "size")
        for size in (0, 11, -1, HUGE, -HUGE):
            self.refuses(BadSize, {"size": size}, Likeness, size)
            self.refuses(BadSize, {"size": size}, Likeness, size, shift=1, flipped=True)

    def test_positions(self):
        self.gives(0, Likeness(5, shift=3), 2)
        self.gives(1, Likeness(5, shift=3, flipped=True), 2)
        self.gives(4, Likeness(5, shift=3, flipped=True), 4)
        self.gives(4, Likeness(5, flipped=True), 1)
        self.gives(0, Likeness(1, shift=3, flipped=True), 0)
        self.assertEqual(table(Likeness(2)), table(Likeness(2, flipped=True)))
        for size in range(1, 11):
            for shift, at in itertools.product(range(size), repeat=2):
                self.assertEqual(Likeness(size, shift=shift)(at), (shift + at) % size)
                flipped = Likeness(size, shift=shift, flipped=True)
                self.assertEqual(flipped(at), (shift - at) % size)

    def test_positions_out_of_range(self):
        for size in (1, 2, 10):
            for at in (-1, size, size + 5, HUGE, -HUGE):
                self.refuses(OutOfRange, {"value": at, "limit": size}, Likeness(size, shift=1), at)
                flip = Likeness(size, flipped=True)
                self.refuses(OutOfRange, {"value": at, "limit": size}, flip, at)

    def test_products(self):
        one = Likeness(5, shift=1)
        two = Likeness(5, shift=3, flipped=True)
        self.gives(Likeness(5, shift=4, flipped=True), operator.mul, one, two)
        self.gives(Likeness(5, shift=2, flipped=True), operator.mul, two, one)
        self.gives(Likeness(5, shift=0), operator.mul, two, two)

    def test_products_and_inverses_by_their_words(self):
        for size in range(1, 7):
            for a in all_likenesses(size):
                for b in all_likenesses(size):
                    self.assertEqual(table(a * b), [a(b(at)) for at in range(size)])
                    self.assertEqual((a * b).size, size)
                    self.assertIs((a * b).flipped, a.flipped != b.flipped)
                for product in (~a * a, a * ~a):
                    self.assertEqual(shown(product.key), shown((0, False)))
                self.assertIs((~a).flipped, a.flipped)
                self.assertEqual((~a).size, size)

    def test_products_where_likenesses_move_alike(self):
        self.gives((0, True), getattr, Likeness(1, flipped=True) * Likeness(1), "key")
        self.gives((0, False), getattr, Likeness(1, flipped=True) * Likeness(1, flipped=True), "key")
        self.gives((1, True), getattr, Likeness(2, shift=1) * Likeness(2, flipped=True), "key")
        self.gives((1, True), getattr, ~Likeness(2, shift=1, flipped=True), "key")

    def test_inverses(self):
        self.gives(Likeness(5, shift=4), operator.invert, Likeness(5, shift=1))
        flip = Likeness(5, shift=3, flipped=True)
        self.gives(Likeness(5, shift=3, flipped=True), operator.invert, flip)
        self.gives(Likeness(7), operator.invert, Likeness(7))

    def test_products_of_two_sizes(self):
        self.refuses(BadSize, {"size": 4}, operator.mul, Likeness(5), Likeness(4))
        self.refuses(BadSize, {"size": 5}, operator.mul, Likeness(4, flipped=True), Likeness(5))

    def test_likeness_of(self):
        self.gives(Likeness(5, shift=3, flipped=True), likeness_of, (3, True), size=5)
        self.gives(Likeness(5, shift=3), likeness_of, key=[3, False], size=5)
        for size in (1, 2, 10):
            for likeness in all_likenesses(size):
                self.gives(likeness, likeness_of, likeness.key, size=size)


class TestMove(PromiseCase):
    def test_move(self):
        crossing = (("c", "b"), ("a", "d"), ("e",))
        turn = Likeness(5, shift=1)
        self.gives((("c", "e"), ("a", "d"), ("b",)), move, FIVE, crossing, turn)
        flip = Likeness(5, flipped=True)
        self.gives((("c", "e"), ("a", "d"), ("b",)), move, FIVE, crossing, flip)
        uneven = (("c", "e", "b"), ("a", "d"))
        self.gives((("c", "e", "d"), ("a", "b")), move, FIVE, uneven, Likeness(5, shift=-998))
        self.gives(crossing, move, pond=FIVE, parting=crossing, likeness=Likeness(5))
        self.gives((("a",),), move, Pond(["a"]), (("a",),), Likeness(1, flipped=True))
        together = (("c", "a", "e", "b", "d"),)
        self.gives(together, move, FIVE, together, turn)

    def test_move_by_its_words(self):
        for pond in small_ponds(4):
            names = pond.names
            for likeness in all_likenesses(len(pond)):
                for parting in all_partings(pond):
                    moved = move(pond, parting, likeness)
                    for i, j in itertools.product(range(len(pond)), repeat=2):
                        self.assertEqual(
                            is_together(moved, names[likeness(i)], names[likeness(j)]),
                            is_together(parting, names[i], names[j]),
                        )
                    self.assertIn(moved, all_partings(pond))

    def test_faults_of_move(self):
        parting = (("c", "b"), ("a", "d"), ("e",))
        self.refuses(BadSize, {"size": 4}, move, FIVE, parting, Likeness(4))
        self.refuses(BadSize, {"size": 6}, move, FIVE, parting, Likeness(6))
        self.refuses(BadParting, {}, move, FIVE, parting[::-1], Likeness(4))
        self.refuses(BadParting, {}, move, FIVE, (), Likeness(5))


class TestMovePond(PromiseCase):
    def test_move_pond(self):
        moved = Pond(FIVE.names, strifes=[("a", "d"), ("e", "c")])
        self.gives(moved, move_pond, FIVE, Likeness(5, shift=1))
        self.gives(Pond(FIVE.names, strifes=[("c", "b"), ("a", "d")]), move_pond, FIVE, Likeness(5))
        self.gives(moved, move_pond, pond=FIVE, likeness=Likeness(5, flipped=True))
        self.gives(Pond(["a"]), move_pond, Pond(["a"]), Likeness(1))
        self.gives(Pond(["b", "a"], strifes=[("a", "b")]), move_pond,
                   Pond(["b", "a"], strifes=[("a", "b")]), Likeness(2, shift=1, flipped=True))

    def test_move_pond_by_its_words(self):
        pond = Pond(TEN[:6], strifes=[("j", "h"), ("f", "e"), ("i", "e")])
        names = pond.names
        for likeness in all_likenesses(6):
            moved = move_pond(pond, likeness)
            self.assertEqual(moved.names, names)
            for i, j in itertools.product(range(6), repeat=2):
                self.assertIs(
                    moved.at_strife(names[likeness(i)], names[likeness(j)]),
                    pond.at_strife(names[i], names[j]),
                )

    def test_faults_of_move_pond(self):
        self.refuses(BadSize, {"size": 4}, move_pond, FIVE, Likeness(4))
        self.refuses(BadSize, {"size": 10}, move_pond, FIVE, Likeness(10))


class TestRestart(PromiseCase):
    def test_restart(self):
        crossing = (("c", "b"), ("a", "d"), ("e",))
        moved = Pond(["b", "d", "c", "a", "e"], strifes=[("b", "c"), ("d", "a")])
        self.gives((moved, (("b", "c"), ("d", "a"), ("e",))), restart, FIVE, crossing, "b")
        self.gives((FIVE.without_strife("c", "a"), crossing), restart, FIVE, crossing, "c")
        self.gives(
            (moved, (("b", "c"), ("d", "a"), ("e",))), restart, pond=FIVE, parting=crossing, lot="b"
        )
        self.gives((Pond(["a"]), (("a",),)), restart, Pond(["a"]), (("a",),), "a")

    def test_restart_by_its_words(self):
        pond = Pond(["e", "d", "c", "b", "a"], strifes=[("a", "d"), ("e", "b")])
        for parting in all_partings(pond):
            for at, lot in enumerate(pond.names):
                moved, again = restart(pond, parting, lot)
                self.assertEqual(moved.names, pond.names[at:] + pond.names[:at])
                self.assertIn(again, all_partings(moved))
                for x, y in pairs_in_order(pond):
                    self.assertIs(moved.at_strife(x, y), pond.at_strife(x, y))
                    self.assertIs(is_together(again, x, y), is_together(parting, x, y))

    def test_faults_of_restart(self):
        parting = (("c", "b"), ("a", "d"), ("e",))
        self.refuses(UnknownLot, {"name": "x"}, restart, FIVE, parting, "x")
        self.refuses(BadParting, {}, restart, FIVE, parting[:2], "x")


class TestSamePlace(PromiseCase):
    def test_every_restart_is_the_same_place(self):
        parting = (("c", "b"), ("a", "d"), ("e",))
        for lot in FIVE.names:
            moved, again = restart(FIVE, parting, lot)
            self.gives(True, same_place, FIVE, parting, moved, again)
            self.gives(True, same_place, moved, again, FIVE, parting)
        self.gives(True, same_place, pond=FIVE, parting=parting, other_pond=FIVE, other_parting=parting)
        self.gives(True, same_place, Pond(["a"]), (("a",),), Pond(["a"]), (("a",),))

    def test_other_partings_strifes_and_names(self):
        parting = (("c", "b"), ("a", "d"), ("e",))
        other = (("c", "b"), ("a", "e"), ("d",))
        self.gives(False, same_place, FIVE, parting, FIVE, other)
        moved, again = restart(FIVE, parting, "e")
        self.gives(False, same_place, FIVE, parting, moved.bare(), again)
        self.gives(False, same_place, FIVE, parting, moved.with_strife("e", "c"), again)
        self.gives(False, same_place, FIVE.bare(), parting, moved, again)
        self.gives(False, same_place, Pond(["a"]), (("a",),), Pond(["b"]), (("b",),))
        more = Pond([*FIVE.names, "f"], strifes=FIVE.strifes)
        self.gives(False, same_place, FIVE, parting, more, (*parting, ("f",)))
        self.gives(False, same_place, more, (*parting, ("f",)), FIVE, parting)

    def test_the_other_way_around_is_another_place(self):
        singles = (("a",), ("b",), ("c",))
        turned = (("c",), ("b",), ("a",))
        self.gives(False, same_place, Pond(["a", "b", "c"]), singles, Pond(["c", "b", "a"]), turned)
        self.gives(
            True, same_place, Pond(["a", "b"]), (("a",), ("b",)), Pond(["b", "a"]), (("b",), ("a",))
        )
        swapped = Pond(["a", "c", "b"])
        self.gives(
            False, same_place, Pond(["a", "b", "c"]), singles, swapped, (("a",), ("c",), ("b",))
        )

    def test_faults_of_same_place(self):
        good = (("a",), ("b",))
        pond = Pond(["a", "b"])
        far = Pond(["c"])
        self.refuses(BadParting, {}, same_place, pond, (("b",), ("a",)), pond, good)
        self.refuses(BadParting, {}, same_place, pond, good, pond, (("b",), ("a",)))
        self.refuses(BadParting, {}, same_place, pond, good, far, (("a",), ("b",)))
        self.refuses(BadParting, {}, same_place, pond, good, far, ())
        self.refuses(BadParting, {}, same_place, pond, (("b",), ("a",)), far, (("c",),))
        self.refuses(BadParting, {}, same_place, far, (("c",), ()), pond, good)


if __name__ == "__main__":
    unittest.main()
