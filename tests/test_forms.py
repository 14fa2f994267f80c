"""forms.py: points 14, 16 and 41."""

import itertools
import unittest

from hedgejoin.errors import BadParting, BadSize, TooMany
from hedgejoin.forms import all_forms, alike, family, form, form_key, likenesses
from hedgejoin.moves import likeness_of, move
from hedgejoin.partings import code, from_code
from hedgejoin.ponds import Pond
from tests.helpers import (
    ALONE, HUGE, ONLY, TEN, TEN_SINGLES, TEN_WORLD, WHOLE, PromiseCase, all_partings, by_code,
    code_of, small_ponds, sorted_parting, uncrossed_partings,
)

FIVE = Pond(["c", "a", "e", "b", "d"], strifes=[("c", "a")])
PARTING = (("c", "e"), ("a",), ("b", "d"))
CROSSED = (("c", "e"), ("a", "b"), ("d",))
TWO = Pond(["b", "a"])
TWO_SINGLES = (("b",), ("a",))
BAD = ((), (("c", "e"), ("b", "a"), ("d",)), (("a", "b"), ("c", "e"), ("d",)), (("c", "e"),))


def keys(size, flips):
    """Point 16: the keys of the likenesses in likeness order."""
    kinds = [False, True] if flips else [False]
    return [(shift, flipped) for flipped in kinds for shift in range(size)]


def moved(pond, parting, key):
    """Point 16 as it stands."""
    shift, flipped = key
    names, size = pond.names, len(pond.names)
    places = {lot: (shift - at if flipped else shift + at) % size for at, lot in enumerate(names)}
    return sorted_parting(pond, [[names[places[lot]] for lot in field] for field in parting])


class TestForms(PromiseCase):
    def test_form(self):
        self.gives((0, 0, 1, 1, 2), form, FIVE, (("c", "a"), ("e",), ("b", "d")))
        self.gives((0, 0, 1, 2, 1), form, FIVE, PARTING)
        self.gives((0, 1, 0, 1, 2), form, pond=FIVE, parting=CROSSED)
        self.gives((0, 1, 0, 1, 2), form, FIVE, CROSSED, flips=False)
        self.gives((0,), form, ALONE, ONLY)
        self.gives((0, 1), form, TWO, TWO_SINGLES, flips=False)
        self.gives((0,) * 10, form, TEN, WHOLE)
        self.gives(tuple(range(10)), form, TEN, TEN_SINGLES)

    def test_flips_matter(self):
        six = Pond(["a", "b", "c", "d", "e", "f"])
        one = (("a", "b"), ("c", "e"), ("d",), ("f",))
        two = (("a", "b"), ("c",), ("d", "f"), ("e",))
        self.gives((0, 0, 1, 2, 1, 3), form, six, one)
        self.gives((0, 0, 1, 2, 1, 3), form, six, two)
        self.gives((0, 0, 1, 2, 1, 3), form, six, one, flips=False)
        self.gives((0, 0, 1, 2, 3, 2), form, six, two, flips=False)
        self.gives((0, False), form_key, six, one)
        self.gives((1, True), form_key, six, two)
        self.gives((0, False), form_key, six, two, flips=False)
        self.gives(True, alike, six, one, two)
        self.gives(False, alike, six, one, two, flips=False)
        self.gives([(1, True)], likenesses, six, one, two)
        self.gives([], likenesses, six, one, two, flips=False)
        self.assertEqual(len(family(six, one)), 12)
        self.assertEqual(len(family(six, one, flips=False)), 6)

    def test_form_key(self):
        self.gives((2, False), form_key, FIVE, PARTING)
        self.gives((0, False), form_key, pond=FIVE, parting=CROSSED, flips=True)
        self.gives((0, False), form_key, ALONE, ONLY)
        self.gives((0, False), form_key, TWO, TWO_SINGLES)
        self.gives((0, False), form_key, TEN, WHOLE)

    def test_family(self):
        images = [(("b", "a"),)]
        self.gives(images, family, TWO, (("b", "a"),))
        self.gives([ONLY], family, pond=ALONE, parting=ONLY, flips=False)
        self.gives([WHOLE], family, TEN, WHOLE)
        pairs = [(("a", "b"), ("c",)), (("a", "c"), ("b",)), (("a",), ("b", "c"))]
        self.gives(pairs, family, Pond(["a", "b", "c"]), pairs[2])
        self.gives(pairs, family, Pond(["a", "b", "c"]), pairs[1], flips=False)

    def test_likenesses(self):
        self.gives([(0, False), (0, True)], likenesses, ALONE, ONLY, ONLY)
        self.gives([(0, False)], likenesses, ALONE, ONLY, ONLY, flips=False)
        self.gives(keys(2, True), likenesses, TWO, TWO_SINGLES, TWO_SINGLES)
        self.gives(keys(10, True), likenesses, TEN, TEN_SINGLES, TEN_SINGLES)
        self.gives(keys(10, False), likenesses, TEN, WHOLE, WHOLE, flips=False)
        self.gives([], likenesses, pond=TEN, first=WHOLE, second=TEN_WORLD)
        first = (("c", "a"), ("e",), ("b",), ("d",))
        second = (("c",), ("a",), ("e", "b"), ("d",))
        self.gives([(2, False), (3, True)], likenesses, FIVE, first, second)
        self.gives([(2, False)], likenesses, FIVE, first, second, flips=False)

    def test_alike(self):
        self.gives(True, alike, FIVE, PARTING, moved(FIVE, PARTING, (3, True)))
        self.gives(False, alike, pond=FIVE, first=PARTING, second=CROSSED)
        self.gives(True, alike, ALONE, ONLY, ONLY, flips=False)
        self.gives(False, alike, TWO, TWO_SINGLES, (("b", "a"),))
        self.gives(True, alike, TEN, TEN_WORLD, moved(TEN, TEN_WORLD, (7, False)), flips=False)

    def test_all_forms(self):
        self.gives([(0,)], all_forms, 1)
        self.gives([(0, 0), (0, 1)], all_forms, 2)
        self.gives([(0, 0, 0), (0, 0, 1), (0, 1, 2)], all_forms, size=3)
        self.gives([(0, 0, 0, 1), (0, 0, 1, 1)], all_forms, 4, fields=2)
        self.gives([(0, 0, 1, 2), (0, 1, 0, 2)], all_forms, 4, fields=3, flips=False)
        self.gives([(0, 1, 2, 3, 4)], all_forms, 5, fields=5)
        self.gives([(0, 0, 0, 0, 0)], all_forms, 5, fields=1, flips=False)
        for fields in (0, -1, 6, 7, HUGE, -HUGE):
            self.gives([], all_forms, 5, fields=fields)
        self.gives([], all_forms, 1, fields=2)

    def test_sizes(self):
        for size in (0, -1, -7, -HUGE):
            self.refuses(BadSize, {"size": size}, all_forms, size)
            self.refuses(BadSize, {"size": size}, all_forms, size, fields=0, flips=False)
        for size in (6, 7, 10, 11, HUGE):
            self.refuses(TooMany, {"count": size, "limit": 5}, all_forms, size)
            self.refuses(TooMany, {"count": size, "limit": 5}, all_forms, size, fields=0)

    def test_faults(self):
        for bad in BAD:
            for flips in (True, False):
                for entry in (form, form_key, family):
                    self.refuses(BadParting, {}, entry, FIVE, bad, flips=flips)
                for entry in (likenesses, alike):
                    self.refuses(BadParting, {}, entry, FIVE, bad, PARTING, flips=flips)
                    self.refuses(BadParting, {}, entry, FIVE, PARTING, bad, flips=flips)

    def test_by_their_words(self):
        for pond in small_ponds(5):
            for parting, flips in itertools.product(all_partings(pond), (True, False)):
                size = len(pond.names)
                images = [moved(pond, parting, key) for key in keys(size, flips)]
                codes = [code_of(pond, image) for image in images]
                self.assertEqual(form(pond, parting, flips=flips), min(codes))
                key = keys(size, flips)[codes.index(min(codes))]
                self.assertEqual(form_key(pond, parting, flips=flips), key)
                found = family(pond, parting, flips=flips)
                self.assertEqual(found, by_code(pond, set(images)))
                still = likenesses(pond, parting, parting, flips=flips)
                self.assertEqual(len(found) * len(still), size * (2 if flips else 1))

    def test_facts(self):
        for pond in [*small_ponds(4), FIVE]:
            for parting, flips in itertools.product(all_partings(pond), (True, False)):
                least = form(pond, parting, flips=flips)
                self.assertEqual(least, code(pond, family(pond, parting, flips=flips)[0]))
                likeness = likeness_of(form_key(pond, parting, flips=flips), size=len(pond.names))
                self.assertEqual(code(pond, move(pond, parting, likeness)), least)

    def test_alike_has_one_form(self):
        for pond in small_ponds(4):
            partings = all_partings(pond)
            for one, two, flips in itertools.product(partings, partings, (True, False)):
                same = form(pond, one, flips=flips) == form(pond, two, flips=flips)
                self.assertIs(alike(pond, one, two, flips=flips), same)
                found = [key for key in keys(len(pond.names), flips) if moved(pond, one, key) == two]
                self.assertEqual(likenesses(pond, one, two, flips=flips), found)

    def test_all_forms_by_their_words(self):
        for pond in small_ponds(5):
            worlds = uncrossed_partings(pond)
            size = len(pond.names)
            for flips in (True, False):
                for fields in [None, *range(size + 2)]:
                    found = {
                        form(pond, world, flips=flips) for world in worlds
                        if fields is None or len(world) == fields
                    }
                    self.assertEqual(all_forms(size, fields=fields, flips=flips), sorted(found))
                    for numbers in found:
                        self.assertEqual(form(pond, from_code(pond, numbers), flips=flips), numbers)


if __name__ == "__main__":
    unittest.main()
