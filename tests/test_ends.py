"""ends.py: points 5, 19, 25 and 39."""

import itertools
import random
import unittest

from hedgejoin.ends import (
    ends, fences, fewest_end, greedy_end, greedy_row, is_end, is_end_paper,
)
from hedgejoin.errors import AtStrife, BadParting, TooMany
from hedgejoin.ponds import Pond
from hedgejoin.rows import replay
from tests.helpers import (
    ALONE, ONLY, SINGLES, SIX, TEN, TEN_SINGLES, TEN_WORLD, WHOLE, WITH_STRIFES, PromiseCase,
    all_cases, all_worlds, by_code, deeds_from, is_together, is_uncrossed, joined,
    lies_within, pairs_in_order, turned,
)

TWO = Pond(["b", "a"], strifes=[("a", "b")])
TWO_SINGLES = (("b",), ("a",))
# The example of point 39: the greedy end has 3 fields where 2 are possible.
FOUR = Pond(["a", "b", "c", "d"], strifes=[("a", "b"), ("c", "d")])
FOUR_SINGLES = (("a",), ("b",), ("c",), ("d",))
PAIRS = (("a", "d"), ("b", "c"))
ACROSS = (("a", "c"), ("b",), ("d",))
FIVE = Pond(["c", "a", "e", "b", "d"], strifes=[("c", "d"), ("a", "b"), ("b", "d")])
FIVE_SINGLES = (("c",), ("a",), ("e",), ("b",), ("d",))
ALL_STRIFES = Pond(TEN.names, strifes=pairs_in_order(TEN))


class TestEnds(PromiseCase):
    def test_is_end(self):
        self.gives(False, is_end, FOUR, FOUR_SINGLES)
        self.gives(True, is_end, FOUR, PAIRS)
        self.gives(True, is_end, FOUR, ACROSS)
        self.gives(False, is_end, FOUR, (("a", "d"), ("b",), ("c",)))
        self.gives(True, is_end, pond=TWO, world=TWO_SINGLES)
        self.gives(True, is_end, ALONE, ONLY)
        self.gives(False, is_end, TEN, TEN_SINGLES)
        self.gives(True, is_end, TEN, WHOLE)
        self.gives(True, is_end, ALL_STRIFES, TEN_SINGLES)

    def test_fences(self):
        found = [(("a", "b"), ("a", "b")), (("c", "d"), ("c", "d"))]
        self.gives(found, fences, FOUR, FOUR_SINGLES)
        self.gives([(("a", "b"), ("a", "b"))], fences, FOUR, PAIRS)
        # The deed b, d is crossed, not fenced; a c with b and a c with d are at strife.
        found = [(("a", "b"), ("a", "b")), (("a", "d"), ("c", "d"))]
        self.gives(found, fences, FOUR, ACROSS)
        self.gives([], fences, pond=ALONE, world=ONLY)
        self.gives([], fences, TEN, TEN_WORLD)
        found = [(pair, pair) for pair in pairs_in_order(TEN)]
        self.gives(found, fences, ALL_STRIFES, TEN_SINGLES)

    def test_ends(self):
        found = [ACROSS, PAIRS, (("a",), ("b", "d"), ("c",))]
        self.gives(found, ends, FOUR, FOUR_SINGLES)
        self.gives([PAIRS], ends, pond=FOUR, start=(("a", "d"), ("b",), ("c",)))
        self.gives([PAIRS], ends, FOUR, PAIRS)
        self.gives([TWO_SINGLES], ends, TWO, TWO_SINGLES)
        self.gives([ONLY], ends, ALONE, ONLY)
        self.gives([(FIVE.names,)], ends, FIVE.bare(), FIVE_SINGLES)

    def test_greedy(self):
        row = [("a", "c")]
        self.gives(row, greedy_row, FOUR, FOUR_SINGLES)
        self.gives(ACROSS, greedy_end, FOUR, FOUR_SINGLES)
        self.gives([], greedy_row, pond=FOUR, start=PAIRS)
        self.gives(PAIRS, greedy_end, pond=FOUR, start=PAIRS)
        self.gives([], greedy_row, ALONE, ONLY)
        self.gives(ONLY, greedy_end, ALONE, ONLY)
        self.gives([], greedy_row, TWO, TWO_SINGLES)
        self.gives(TWO_SINGLES, greedy_end, TWO, TWO_SINGLES)
        self.gives([("j", lot) for lot in TEN.names[1:]], greedy_row, TEN, TEN_SINGLES)
        self.gives(WHOLE, greedy_end, TEN, TEN_WORLD)
        self.gives(TEN_SINGLES, greedy_end, ALL_STRIFES, TEN_SINGLES)

    def test_fewest_end(self):
        self.gives(PAIRS, fewest_end, FOUR, FOUR_SINGLES)
        self.gives(PAIRS, fewest_end, pond=FOUR, start=PAIRS)
        self.gives(ONLY, fewest_end, ALONE, ONLY)
        self.gives(TWO_SINGLES, fewest_end, TWO, TWO_SINGLES)
        self.gives((FIVE.names,), fewest_end, FIVE.bare(), FIVE_SINGLES)

    def test_faults(self):
        for entry in (is_end, fences, greedy_end, greedy_row):
            self.refuses_bad_worlds(entry, [SIX])
        self.refuses_bad_worlds(is_end_paper, [SIX], [[(("f", "x"), ("x", "f"))]])
        for entry in (ends, fewest_end):
            self.refuses(TooMany, {"count": 6, "limit": 5}, entry, SIX, SINGLES)
            self.refuses(TooMany, {"count": 6, "limit": 5}, entry, SIX, ())
            self.refuses(TooMany, {"count": 10, "limit": 5}, entry, TEN, TEN_SINGLES)
            self.refuses(BadParting, {}, entry, FIVE, ())
            self.refuses(BadParting, {}, entry, FOUR, (("a", "d"), ("c", "b")))
            self.refuses(AtStrife, {"pair": ("c", "d")}, entry, FIVE, (("c", "b", "d"), ("a",), ("e",)))

    def test_by_their_words(self):
        for pond, world in all_cases(5):
            stands = deeds_from(pond, world)
            self.assertIs(is_end(pond, world), not stands)
            above = [one for one in all_worlds(pond) if lies_within(world, one)]
            found = [
                one for one in above
                if not any(lies_within(one, other) for other in above if other != one)
            ]
            self.assertEqual(ends(pond, world), by_code(pond, found))
            fewest = min(len(end) for end in found)
            best = [end for end in by_code(pond, found) if len(end) == fewest][0]
            self.assertEqual(fewest_end(pond, world), best)
            self.assertEqual(fences(pond, world), fences_by_words(pond, world))

    def test_ends_are_ends_and_lie_within_no_other_world(self):
        for pond, world in all_cases(4):
            for end in ends(pond, world):
                self.assertTrue(is_end(pond, end))
                for other in all_worlds(pond):
                    self.assertTrue(other == end or not lies_within(end, other))

    def test_greedy_row_by_its_words(self):
        for pond, world in all_cases(5):
            row, at = [], world
            while deeds_from(pond, at):
                deed, at = deeds_from(pond, at)[0]
                row.append(deed)
            self.assertEqual(greedy_row(pond, world), row)
            self.assertEqual(greedy_end(pond, world), at)
            self.assertEqual(replay(pond, world, row), at)
            self.assertIn(at, ends(pond, world))

    def test_without_strife_the_only_end_is_one_field(self):
        for pond, world in all_cases(5):
            if not pond.strifes:
                self.assertEqual(ends(pond, world), [(pond.names,)])
                self.assertEqual(greedy_end(pond, world), (pond.names,))


def fences_by_words(pond, world):
    found = []
    for one, two in itertools.combinations(world, 2):
        after = joined(pond, world, one[0], two[0])
        strifes = [pair for pair in pond.strifes if is_together(after, *pair)]
        if is_uncrossed(pond, after) and strifes:
            found.append(((one[0], two[0]), strifes[0]))
    return found


class TestEndPapers(PromiseCase):
    def accepts(self, pond, world, items):
        self.gives(True, is_end_paper, pond, world, items)
        lists = tuple([[list(deed), list(pair)] for deed, pair in items])
        self.gives(True, is_end_paper, pond, world, lists)

    def rejects(self, pond, world, items):
        self.gives(False, is_end_paper, pond, world, items)
        lists = tuple([[list(deed), list(pair)] for deed, pair in items])
        self.gives(False, is_end_paper, pond, world, lists)

    def test_right_ones(self):
        deed = ("a", "b")
        self.accepts(FOUR, PAIRS, [(deed, ("a", "b"))])
        self.accepts(FOUR, PAIRS, [(deed, ("d", "c"))])
        self.accepts(FOUR, PAIRS, [(deed, ("b", "a"))] * 100 + [(deed, ("c", "d"))] * 100)
        self.gives(True, is_end_paper, pond=FOUR, world=PAIRS, items=[(deed, ("a", "b"))])
        items = [(("a", "b"), ("b", "a")), (("a", "d"), ("d", "c"))]
        self.accepts(FOUR, ACROSS, items)
        self.accepts(FOUR, ACROSS, items[::-1])
        self.accepts(TWO, TWO_SINGLES, [(("b", "a"), ("a", "b"))])
        self.accepts(ALL_STRIFES, TEN_SINGLES, [(pair, pair) for pair in pairs_in_order(TEN)])

    def test_one_field(self):
        self.accepts(ALONE, ONLY, [])
        self.gives(True, is_end_paper, TEN, WHOLE, ())
        self.rejects(TEN, WHOLE, [(("j", "i"), ("j", "i"))])
        self.rejects(ALONE, ONLY, [(("a", "a"), ("a", "a"))])

    def test_missing_items(self):
        self.rejects(FOUR, PAIRS, [])
        self.rejects(FOUR, ACROSS, [(("a", "b"), ("a", "b"))])
        self.rejects(FOUR, ACROSS, [(("a", "d"), ("c", "d"))] * 3)
        pairs = pairs_in_order(TEN)
        self.rejects(ALL_STRIFES, TEN_SINGLES, [(pair, pair) for pair in pairs[:-1]])

    def test_wrong_deeds(self):
        right = [(("a", "b"), ("a", "b")), (("a", "d"), ("c", "d"))]
        # Turned, not plain, within one field, one lot twice, unknown, and one that no path meets.
        for deed in (("b", "a"), ("c", "d"), ("c", "b"), ("a", "c"), ("a", "a"), ("d", "d"),
                     ("a", "x"), ("x", "b"), ("x", "x"), ("b", "d"), ("", "")):
            for pair in pairs_in_order(FOUR):
                self.rejects(FOUR, ACROSS, [*right, (deed, pair)])
                self.rejects(FOUR, ACROSS, [(deed, pair), *right])

    def test_wrong_strifes(self):
        right = [(("a", "b"), ("a", "b")), (("a", "d"), ("c", "d"))]
        # No strife, a strife elsewhere, one lot twice, unknown lots.
        for pair in (("b", "c"), ("c", "d"), ("d", "c"), ("a", "a"), ("b", "b"), ("a", "x"), ("x", "b"),
                     ("x", "x"), ("a", "d"), ("a", "c")):
            self.rejects(FOUR, ACROSS, [*right, (("a", "b"), pair)])
            self.rejects(FOUR, ACROSS, [(("a", "b"), pair), right[1]])

    def test_a_world_in_which_a_deed_stands(self):
        for pond, world in ((FOUR, FOUR_SINGLES), (FOUR, (("a", "d"), ("b",), ("c",))), (TEN, TEN_WORLD)):
            self.rejects(pond, world, [])
            self.rejects(pond, world, fences(pond, world))
            stands = [deed for deed, _ in deeds_from(pond, world)]
            for pair in [*pond.strifes, ("a", "b")]:
                self.rejects(pond, world, [*fences(pond, world), *[(deed, pair) for deed in stands]])

    def test_fences_are_a_paper_exactly_of_an_end(self):
        for pond, world in all_cases(5):
            self.assertIs(is_end_paper(pond, world, fences(pond, world)), is_end(pond, world))

    def test_by_their_words(self):
        rng = random.Random(39)
        for pond in WITH_STRIFES:
            lots = [*pond.names, "x"]
            for world in all_worlds(pond):
                right = fences(pond, world)
                for _ in range(12):
                    items = [rng.choice([item, (item[0], turned(item[1]))]) for item in right]
                    if rng.random() < 0.6:
                        pair = tuple(rng.choices(lots, k=2))
                        deed = rng.choice([item[0] for item in right] + [tuple(rng.choices(lots, k=2))])
                        items.insert(rng.randint(0, len(items)), (deed, pair))
                    elif items and rng.random() < 0.5:
                        items.pop(rng.randrange(len(items)))
                    rng.shuffle(items)
                    expected = shows(pond, world, items)
                    self.assertIs(is_end_paper(pond, world, items), expected)


def shows(pond, world, items):
    """Point 39 and the entry, as they stand."""
    due = {}
    for one, two in itertools.combinations(world, 2):
        if is_uncrossed(pond, joined(pond, world, one[0], two[0])):
            due[(one[0], two[0])] = {
                pair
                for x, y in pond.strifes
                if (x in one and y in two) or (x in two and y in one)
                for pair in ((x, y), (y, x))
            }
    if not all(deed in due and pair in due[deed] for deed, pair in items):
        return False
    return all(any(deed == told for told, _ in items) for deed in due)


if __name__ == "__main__":
    unittest.main()
