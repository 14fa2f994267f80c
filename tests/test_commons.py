"""commons.py: points 17, 37 and 38."""

import itertools
import random
import unittest

from hedgejoin.commons import (
    close, common_future, common_past, future_paper, is_why, meeting_costs, why_together,
)
from hedgejoin.errors import AtStrife, BadParting, BadSize, Crossing, SameLot, UnknownLot
from hedgejoin.ponds import Pond
from tests.helpers import (
    ALONE, BAD_WORLDS, HIGH, HUGE, LOW, ONLY, SINGLES, SIX, TEN, TEN_SINGLES, TEN_WORLD, WHOLE,
    WITH_STRIFES, PromiseCase, all_partings, all_worlds, closing_by_words, is_together,
    is_uncrossed, least_of, lies_within, pairs_in_order, small_ponds, some_of, spoil,
)

FIVE = Pond(["a", "b", "c", "d", "e"])
CROSSED = (("a", "c"), ("b", "d"), ("e",))
GIVEN = [("given", 0, "a", "c"), ("given", 0, "b", "d")]
# Not sorted, and with a lot too few: no partings of FIVE.
BAD = ((("c", "a"), ("b", "d"), ("e",)), (("b", "d"), ("a", "c"), ("e",)), (("a", "c"), ("b", "d")), ())
TWO = Pond(["b", "a"], strifes=[("a", "b")])
TWO_SINGLES = (("b",), ("a",))
ASIDE = (("f", "a"), ("e",), ("b",), ("d",), ("c",))
# The closing of their chain has f and c together, and e and d.
FAR = (("f",), ("a", "c"), ("e", "b"), ("d",))
NEAR = (("f", "d"), ("a",), ("e",), ("b",), ("c",))
FEW = [*small_ponds(4), *WITH_STRIFES[:3]]


class TestPastAndFuture(PromiseCase):
    def test_common_past(self):
        self.gives(SINGLES, common_past, SIX, [LOW, ASIDE])
        self.gives(LOW, common_past, SIX, [LOW, HIGH])
        self.gives(LOW, common_past, pond=SIX, worlds=(HIGH, LOW, HIGH))
        self.gives((("f",), ("a",), ("e",), ("b", "d"), ("c",)), common_past, SIX,
                   [LOW, (("f",), ("a",), ("e",), ("b", "d", "c"))])

    def test_common_future(self):
        self.gives((("f", "a", "e"), ("b", "d"), ("c",)), common_future, SIX, [LOW, ASIDE])
        self.gives(HIGH, common_future, SIX, [LOW, HIGH])
        self.gives(HIGH, common_future, pond=SIX, worlds=(LOW, SINGLES, HIGH))
        # Their chain crosses, so more comes together than the chain.
        worlds = [(("a", "c"), ("b",), ("d",), ("e",)), (("a",), ("b", "d"), ("c",), ("e",))]
        self.gives((("a", "b", "c", "d"), ("e",)), common_future, FIVE, worlds)

    def test_one_world_and_the_same_twice(self):
        for pond, world in [(SIX, LOW), (ALONE, ONLY), (TWO, TWO_SINGLES), (TEN, TEN_WORLD)]:
            for many in (1, 2):
                self.gives(world, common_past, pond, [world] * many)
                self.gives(world, common_future, pond, [world] * many)
                self.gives(None, future_paper, pond, [world] * many)
            self.gives((0, 0), meeting_costs, pond, world, world)

    def test_ten_lots(self):
        self.gives(TEN_SINGLES, common_past, TEN, [TEN_WORLD, TEN_SINGLES] * 100)
        self.gives(WHOLE, common_future, TEN, [TEN_WORLD, WHOLE])
        self.gives((3, 3), meeting_costs, TEN, TEN_WORLD, TEN_SINGLES)
        self.gives((6, 6), meeting_costs, TEN, TEN_WORLD, WHOLE)

    def test_no_common_future(self):
        self.refuses(AtStrife, {"pair": ("f", "c")}, common_future, SIX, [FAR, NEAR])
        paper = future_paper(SIX, [FAR, NEAR])
        self.assertEqual(paper[0], ("f", "c"))
        self.gives((("f", "c"), tuple(why_together(SIX, [FAR, NEAR], "f", "c"))),
                   future_paper, SIX, [FAR, NEAR])
        self.assertTrue(is_why(SIX, [FAR, NEAR], "f", "c", paper[1]))
        self.gives((3, None), meeting_costs, SIX, first=FAR, second=NEAR)
        self.gives(None, future_paper, pond=SIX, worlds=(LOW, HIGH))

    def test_meeting_costs(self):
        self.gives((3, 3), meeting_costs, SIX, LOW, ASIDE)
        self.gives((2, 2), meeting_costs, SIX, LOW, HIGH)
        worlds = [(("a", "c"), ("b",), ("d",), ("e",)), (("a",), ("b", "d"), ("c",), ("e",))]
        self.gives((2, 4), meeting_costs, FIVE, *worlds)

    def test_close(self):
        self.gives((("a", "b", "c", "d"), ("e",)), close, FIVE, CROSSED)
        self.gives(LOW, close, SIX, LOW)
        self.gives((("a", "c"), ("b",), ("d", "e")), close, pond=FIVE,
                   parting=(("a", "c"), ("b",), ("d", "e")))
        # Strifes do not matter, and one joining can make the next one necessary.
        self.gives((SIX.names,), close, SIX, (("f", "e"), ("a", "d"), ("b", "c")))
        self.gives(ONLY, close, ALONE, ONLY)
        pairs = tuple(zip(TEN.names[:5], TEN.names[5:]))
        self.gives(WHOLE, close, TEN, pairs)
        self.gives(TEN_WORLD, close, TEN, TEN_WORLD)

    def test_faults_of_worlds(self):
        for entry in (common_past, common_future, future_paper):
            self.refuses(BadSize, {"size": 0}, entry, SIX, [])
            self.refuses(BadSize, {"size": 0}, entry, SIX, ())
            for bad, kind, attributes in BAD_WORLDS:
                self.refuses(kind, attributes, entry, SIX, [bad])
                self.refuses(kind, attributes, entry, SIX, [SINGLES, FAR, bad, ()])
        crossed = (("f", "e"), ("a", "b", "d"), ("c",))
        strife = (("f",), ("a",), ("e", "b", "d"), ("c",))
        for entry in (common_past, common_future, future_paper):
            self.refuses(Crossing, {"lots": ("f", "a", "e", "b")}, entry, SIX, [crossed, strife])
            self.refuses(AtStrife, {"pair": ("e", "d")}, entry, SIX, [strife, crossed])
        self.refuses_bad_worlds(meeting_costs, [SIX], [()])
        self.refuses_bad_worlds(meeting_costs, [SIX, FAR])

    def test_faults_of_close(self):
        for bad in BAD:
            self.refuses(BadParting, {}, close, FIVE, bad)

    def test_by_their_words(self):
        for pond in FEW:
            worlds = all_worlds(pond)
            for one, two in itertools.product(worlds, repeat=2):
                self.check_pair(pond, worlds, one, two)

    def check_pair(self, pond, worlds, one, two):
        lower = [world for world in worlds if lies_within(world, one) and lies_within(world, two)]
        past = [world for world in lower if all(lies_within(other, world) for other in lower)]
        self.assertEqual([common_past(pond, [one, two])], past)
        upper = [world for world in worlds if lies_within(one, world) and lies_within(two, world)]
        cost = len(past[0]) * 2 - len(one) - len(two)
        paper = future_paper(pond, [one, two])
        if upper:
            future = least_of(upper)
            self.assertEqual(common_future(pond, [one, two]), future)
            self.assertIsNone(paper)
            costs = (cost, len(one) + len(two) - 2 * len(future))
        else:
            closing = closing_by_words(pond, one + two)
            strife = [pair for pair in pond.strifes if is_together(closing, *pair)][0]
            self.refuses(AtStrife, {"pair": strife}, common_future, pond, [one, two])
            self.assertEqual(paper[0], strife)
            self.assertTrue(is_why(pond, [one, two], *strife, paper[1]))
            costs = (cost, None)
        self.assertEqual(meeting_costs(pond, one, two), costs)

    def test_rows_of_three_worlds(self):
        rng = random.Random(37)
        for pond in [small_ponds(5)[-1], WITH_STRIFES[3]]:
            worlds = all_worlds(pond)
            for _ in range(60):
                row = [rng.choice(worlds) for _ in range(3)]
                lower = [one for one in worlds if all(lies_within(one, other) for other in row)]
                past = [one for one in lower if all(lies_within(other, one) for other in lower)]
                self.assertEqual([common_past(pond, row)], past)
                upper = [one for one in worlds if all(lies_within(other, one) for other in row)]
                if upper:
                    self.assertEqual(common_future(pond, row), least_of(upper))
                self.assertIs(future_paper(pond, row) is None, len(upper) > 0)

    def test_close_is_the_smallest_uncrossed_parting(self):
        for pond in [*small_ponds(5), WITH_STRIFES[2]]:
            for parting in all_partings(pond):
                closing = close(pond, parting)
                self.assertEqual(closing, closing_by_words(pond, parting))
                self.assertIs(closing == parting, is_uncrossed(pond, parting))


class TestReasons(PromiseCase):
    def test_why_together(self):
        reasons = why_together(FIVE, [CROSSED], "b", "c")
        self.assertTrue(is_why(FIVE, [CROSSED], "b", "c", reasons))
        self.gives(reasons, why_together, pond=FIVE, partings=(CROSSED,), x="b", y="c")
        self.gives([("given", 0, "a", "c")], why_together, FIVE, [CROSSED], "a", "c")
        self.gives(None, why_together, FIVE, [CROSSED], "a", "e")
        self.gives(None, why_together, FIVE, [], "a", "b")
        self.gives(None, why_together, FIVE, (), "e", "a")

    def test_faults(self):
        for entry, after in ((why_together, ()), (is_why, ([],))):
            for bad in BAD:
                self.refuses(BadParting, {}, entry, FIVE, [CROSSED, bad], "x", "x", *after)
            self.refuses(UnknownLot, {"name": "x"}, entry, FIVE, [CROSSED], "x", "y", *after)
            self.refuses(UnknownLot, {"name": "y"}, entry, FIVE, [], "a", "y", *after)
            self.refuses(UnknownLot, {"name": "x"}, entry, FIVE, [CROSSED], "x", "x", *after)
            self.refuses(SameLot, {"name": "a"}, entry, FIVE, [CROSSED], "a", "a", *after)
            self.refuses(SameLot, {"name": "a"}, entry, ALONE, [], "a", "a", *after)

    def test_partings_may_cross_and_have_strifes(self):
        pond = Pond(["a", "b", "c", "d"], strifes=[("a", "b"), ("a", "c")])
        parting = (("a", "c"), ("b", "d"))
        reasons = why_together(pond, [parting, parting], "d", "a")
        self.assertTrue(is_why(pond, [parting, parting], "d", "a", reasons))

    def test_ten_lots(self):
        pairs = tuple(zip(TEN.names[:5], TEN.names[5:]))
        for partings in ([pairs], [TEN_SINGLES] * 199 + [WHOLE], [TEN_WORLD, pairs]):
            for x, y in (("j", "a"), ("b", "i"), ("f", "e")):
                reasons = why_together(TEN, partings, x, y)
                self.assertLessEqual(len(reasons), 45)
                self.assertTrue(is_why(TEN, partings, x, y, reasons))
        # A chain of pairs, each in a parting of its own, from one end of the shore to the other.
        steps = [
            TEN_SINGLES[:at] + (TEN.names[at:at + 2],) + TEN_SINGLES[at + 2:] for at in range(9)
        ]
        reasons = why_together(TEN, steps, "a", "j")
        self.assertLessEqual(len(reasons), 45)
        self.assertTrue(is_why(TEN, steps, "a", "j", reasons))
        self.gives(None, why_together, TEN, steps[1:], "a", "j")
        self.gives(None, why_together, TEN, [TEN_WORLD] * 200, "j", "i")

    def test_by_their_words(self):
        for pond in FEW:
            for parting in all_partings(pond):
                self.check_all_pairs(pond, [parting])
        rng = random.Random(38)
        pond = small_ponds(6)[-1]
        partings = all_partings(pond)
        for _ in range(40):
            self.check_all_pairs(pond, [rng.choice(partings) for _ in range(rng.randint(1, 3))])

    def check_all_pairs(self, pond, partings):
        closing = closing_by_words(pond, [field for parting in partings for field in parting])
        for x, y in pairs_in_order(pond):
            reasons = why_together(pond, partings, x, y)
            self.assertIs(reasons is not None, is_together(closing, x, y))
            if reasons is not None:
                self.assertLessEqual(len(reasons), 45)
                self.assertTrue(follows(pond, partings, x, y, reasons))
                self.assertTrue(is_why(pond, partings, y, x, tuple(reasons)))

    def test_a_changed_list_changes_no_later_answer(self):
        first = why_together(FIVE, [CROSSED], "b", "c")
        kept = list(first)
        spoil(first)
        self.assertEqual(why_together(FIVE, [CROSSED], "b", "c"), kept)


def follows(pond, partings, x, y, reasons):
    """Point 38 as it stands."""
    shown = []
    for at, reason in enumerate(reasons):
        one, two = reason[-2:]
        if reason[0] == "given":
            if len(reason) != 4 or not is_together(partings[reason[1]], one, two):
                return False
        else:
            _, i, j, _, _ = reason
            if not (0 <= i < at and 0 <= j < at):
                return False
            lots = {*shown[i], *shown[j]}
            shared = set(shown[i]) & set(shown[j])
            if reason[0] == "linked":
                if not shared or not {one, two} <= lots:
                    return False
            else:
                places = sorted(pond.position(lot) for lot in lots)
                split = [pond.names[place] in shown[i] for place in places]
                if split not in ([True, False, True, False], [False, True, False, True]):
                    return False
                if reason[0] != "crossed" or not {one, two} <= lots:
                    return False
        shown.append((one, two))
    return bool(shown) and set(shown[-1]) == {x, y}


LINKS = [(("a", "b"), ("c",), ("d",), ("e",)), (("a",), ("b", "c"), ("d",), ("e",))]
LINKED = [("given", 0, "a", "b"), ("given", 1, "c", "b"), ("linked", 0, 1, "a", "c")]


class TestIsWhy(PromiseCase):
    def accepts(self, partings, x, y, reasons):
        self.gives(True, is_why, FIVE, partings, x, y, reasons)
        self.gives(True, is_why, FIVE, tuple(partings), y, x, tuple(reasons))

    def rejects(self, partings, x, y, reasons):
        self.gives(False, is_why, FIVE, partings, x, y, reasons)
        self.gives(False, is_why, FIVE, tuple(partings), y, x, tuple(reasons))

    def test_right_ones(self):
        self.accepts([CROSSED], "a", "c", GIVEN[:1])
        self.accepts([CROSSED], "a", "c", [("given", 0, "c", "a")])
        self.gives(True, is_why, pond=FIVE, partings=[CROSSED], x="a", y="c", reasons=GIVEN[:1])
        for x, y in itertools.combinations("abcd", 2):
            self.accepts([CROSSED], x, y, [*GIVEN, ("crossed", 0, 1, x, y)])
            self.accepts([CROSSED], x, y, [*GIVEN, ("crossed", 1, 0, y, x)])
        for x, y in itertools.combinations("abc", 2):
            self.accepts(LINKS, x, y, [*LINKED[:2], ("linked", 0, 1, x, y)])
            self.accepts(LINKS, x, y, [*LINKED[:2], ("linked", 1, 0, y, x)])
        # i and j may be equal, and reasons may repeat or stand there for nothing.
        self.accepts([CROSSED], "a", "c", [*GIVEN, ("linked", 0, 0, "c", "a")])
        self.accepts([CROSSED], "a", "c", [*GIVEN, *GIVEN, ("given", 0, "a", "c")])
        self.accepts([CROSSED], "a", "c", [GIVEN[0]] * 200)
        self.accepts(LINKS, "a", "c", LINKED)

    def test_empty_rows(self):
        self.rejects([CROSSED], "a", "c", [])
        self.rejects([], "a", "c", [])
        self.rejects([], "a", "c", [("given", 0, "a", "c")])

    def test_an_empty_reason(self):
        self.rejects([CROSSED], "a", "c", [()])
        self.rejects([CROSSED], "a", "c", [(), *GIVEN[:1]])
        self.rejects([CROSSED], "a", "c", [GIVEN[0], ()])
        self.rejects([CROSSED], "a", "c", [GIVEN[1], (), GIVEN[0]])
        self.rejects([CROSSED], "a", "b", [(), *GIVEN, ("crossed", 0, 2, "a", "b")])

    def test_words(self):
        for word in ("", "Given", "taken", "cross", "crossed"):
            self.rejects([CROSSED], "a", "c", [(word, 0, "a", "c")])
        for word in ("given", "linked", "Crossed", ""):
            self.rejects([CROSSED], "a", "b", [*GIVEN, (word, 0, 1, "a", "b")])
        for word in ("given", "crossed", "link"):
            self.rejects(LINKS, "a", "c", [*LINKED[:2], (word, 0, 1, "a", "c")])

    def test_numbers_of_integers(self):
        self.rejects([CROSSED], "a", "c", [("given", "a", "c")])
        self.rejects([CROSSED], "a", "c", [("given", 0, 0, "a", "c")])
        for word in ("crossed", "linked", "given"):
            for integers in ((), (0,), (0, 1, 1), (0, 1, 0, 1)):
                if (word, len(integers)) == ("given", 1):
                    continue
                self.rejects([CROSSED], "a", "b", [*GIVEN, (word, *integers, "a", "b")])
                self.rejects([CROSSED], "a", "c", [*GIVEN, (word, *integers, "a", "c")])
                self.rejects([CROSSED], "a", "c", [*GIVEN, (word, *integers, "a", "c"), GIVEN[0]])

    def test_indexes_out_of_range(self):
        for index in (-1, 1, 2, HUGE, -HUGE):
            self.rejects([CROSSED], "a", "c", [("given", index, "a", "c")])
        self.rejects([CROSSED, CROSSED], "a", "c", [("given", 2, "a", "c")])
        self.rejects([CROSSED, CROSSED], "a", "c", [("given", -2, "a", "c")])
        # A reason may not rest on itself or on a later one, also not if that one is right.
        for index in (-1, -2, -3, 2, 3, 4, HUGE, -HUGE):
            for pair in ((0, index), (index, 1)):
                self.rejects([CROSSED], "a", "b", [*GIVEN, ("crossed", *pair, "a", "b"), *GIVEN[::-1],
                                                   ("crossed", 0, 1, "a", "b")])
        self.rejects([CROSSED], "a", "c", [("linked", 0, 0, "a", "c")])
        self.rejects([CROSSED], "a", "c", [("linked", 1, 1, "a", "c"), GIVEN[0]])
        self.rejects([CROSSED], "a", "c", [GIVEN[0], ("linked", 0, 1, "a", "c")])

    def test_lots(self):
        for x, y in (("a", "x"), ("x", "a"), ("x", "x"), ("a", "a"), ("", "")):
            self.rejects([CROSSED], "a", "c", [("given", 0, x, y), GIVEN[0]])
            self.rejects([CROSSED], "a", "c", [*GIVEN, ("linked", 0, 0, x, y), GIVEN[0]])
            self.rejects([CROSSED], "a", "c", [*GIVEN, ("crossed", 0, 1, x, y), GIVEN[0]])

    def test_lots_that_are_called_like_the_words(self):
        pond = Pond(["given", "linked", "x", "crossed"])
        row = [(("given", "x"), ("linked",), ("crossed",)), (("given",), ("linked", "crossed"), ("x",))]
        for x, y in pairs_in_order(pond):
            reasons = why_together(pond, row, x, y)
            self.gives(True, is_why, pond, row, x, y, reasons)
        given = [("given", 0, "given", "x"), ("given", 0, "x", "given")]
        for x, y in pairs_in_order(pond):
            right = (x, y) == ("given", "x")
            self.gives(right, is_why, pond, row, x, y, [*given, ("linked", 0, 1, x, y)])
        links = [(("given", "x"), ("linked",), ("crossed",)), (("given",), ("linked", "x"), ("crossed",))]
        self.gives(None, why_together, pond, links, "x", "crossed")
        reasons = why_together(pond, links, "given", "linked")
        self.gives(True, is_why, pond, links, "given", "linked", reasons)

    def test_wrong_reasons(self):
        self.rejects([CROSSED], "a", "b", [("given", 0, "a", "b")])
        self.rejects([CROSSED], "a", "c", [("given", 0, "a", "b"), GIVEN[0]])
        self.rejects(LINKS, "a", "b", [("given", 1, "a", "b")])
        # No lot in common; too far; not among the lots of both.
        self.rejects([CROSSED], "a", "b", [*GIVEN, ("linked", 0, 1, "a", "b")])
        self.rejects(LINKS, "a", "d", [*LINKED[:2], ("linked", 0, 1, "a", "d")])
        self.rejects(LINKS, "d", "e", [*LINKED[:2], ("linked", 0, 1, "d", "e")])
        self.rejects([CROSSED], "a", "e", [*GIVEN, ("crossed", 0, 1, "a", "e")])
        self.rejects([CROSSED], "a", "e", [*GIVEN, ("crossed", 0, 1, "e", "a")])
        # Groups that do not cross: with a lot in common, side by side, or one around the other.
        self.rejects(LINKS, "a", "c", [*LINKED[:2], ("crossed", 0, 1, "a", "c")])
        for parting in ((("a", "b"), ("c", "d"), ("e",)), (("a", "d"), ("b", "c"), ("e",))):
            given = [("given", 0, *parting[0]), ("given", 0, *parting[1])]
            self.rejects([parting], "a", "c", [*given, ("crossed", 0, 1, "a", "c")])
        self.rejects([CROSSED], "a", "c", [*GIVEN, ("crossed", 0, 0, "a", "c")])

    def test_last_lots(self):
        self.rejects([CROSSED], "a", "c", GIVEN)
        self.rejects([CROSSED], "a", "d", GIVEN)
        self.rejects([CROSSED], "a", "b", GIVEN[:1])
        self.accepts([CROSSED], "d", "b", GIVEN)

    def test_by_their_words(self):
        rng = random.Random(39)
        for pond in (FIVE, Pond(["c", "a", "d", "b"])):
            lots = [*pond.names, "x"]
            partings = all_partings(pond)
            agreed = 0
            for _ in range(4000):
                row = some_of(partings, rng, rng.randint(1, 2))
                reasons = []
                for at in range(rng.randint(1, 3)):
                    word = rng.choice(["given", "linked", "crossed"] if at else ["given"])
                    many = 1 if word == "given" else 2
                    numbers = [rng.randint(0, max(1, at)) for _ in range(many)]
                    reasons.append((word, *numbers, *rng.choices(lots, k=2)))
                right = all(
                    is_known(pond, reason) and (reason[0] != "given" or reason[1] < len(row))
                    for reason in reasons
                ) and follows(pond, row, *reasons[-1][-2:], reasons)
                x, y = reasons[-1][-2:] if right else pond.names[:2]
                self.assertIs(is_why(pond, row, x, y, reasons), right)
                agreed += right
            self.assertGreater(agreed, 50)


def is_known(pond, reason):
    return set(reason[-2:]) <= set(pond.names) and reason[-1] != reason[-2]


if __name__ == "__main__":
    unittest.main()
