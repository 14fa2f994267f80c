"""wishes.py: points 20, 37, 38 and 40."""

import itertools
import operator
import random
import unittest

from hedgejoin.commons import is_why
from hedgejoin.ends import ends
from hedgejoin.errors import (
    AtStrife, BadParting, Crossing, OtherPond, SameLot, TooMany, Ungranted, UnknownLot,
)
from hedgejoin.partings import is_world
from hedgejoin.ponds import Pond
from hedgejoin.roads import history
from hedgejoin.rows import replay
from hedgejoin.wishes import Wish, is_cure, least_cure
from tests.helpers import (
    ALONE, ONLY, SINGLES, SIX, TEN, TEN_SINGLES, TEN_WORLD, WHOLE, PromiseCase, all_partings,
    all_worlds, by_code, closing_by_words, is_together, least_of, lies_within, pairs_in_order,
    shown, sorted_parting, turned,
)

FIVE = Pond(["c", "a", "e", "b", "d"], strifes=[("c", "d"), ("a", "b")])
FIVE_SINGLES = (("c",), ("a",), ("e",), ("b",), ("d",))
SEVEN = Pond(TEN.names[:7])
EIGHT = Pond(TEN.names[:8])
# Grantable; c and e come together with nothing else.
MILD = Wish(FIVE, together=[["e", "c"]], apart=[("d", "b"), ("a", "c")])
# Its least parting has c, a, e, b together, so a and b at strife.
STRIFE = Wish(FIVE, together=[["c", "e"], ["a", "b"]], apart=[("d", "c")])
APART = Wish(FIVE, together=[["c", "e"], ["a", "d"]], apart=[("e", "d"), ("a", "e")])
BOTH = Wish(FIVE, together=[["c", "e"], ["a", "b"]], apart=[("b", "e"), ("d", "c")])


def wishes(pond, many, seed):
    """Some wishes about the pond, always the same ones."""
    rng = random.Random(seed)
    found = [Wish(pond)]
    for _ in range(many):
        together = [
            rng.choices(pond.names, k=rng.randint(0, 3)) for _ in range(rng.randint(0, 3))
        ]
        apart = rng.choices(pairs_in_order(pond), k=rng.randint(0, 2)) if len(pond.names) > 1 else []
        found.append(Wish(pond, together=together, apart=[turned(pair) for pair in apart]))
    return found


def some_wishes():
    ponds = [FIVE, FIVE.bare(), Pond(["c", "a", "d", "b"], strifes=[("a", "b")]), ALONE,
             Pond(["b", "a"]), Pond(["b", "a"], strifes=[("a", "b")])]
    return [wish for seed, pond in enumerate(ponds) for wish in wishes(pond, 40, seed)]


def grants(wish, world):
    """Point 40 as it stands."""
    return lies_within(wish.groups, world) and not any(is_together(world, *pair) for pair in wish.apart)


def granting_by_words(wish):
    return by_code(wish.pond, [world for world in all_worlds(wish.pond) if grants(wish, world)])


def cause_by_words(wish, parting):
    for pair in wish.apart:
        if is_together(parting, *pair):
            return ("apart", pair)
    for pair in wish.pond.strifes:
        if is_together(parting, *pair):
            return ("strife", pair)
    return None


class TestWish(PromiseCase):
    def test_properties(self):
        wish = Wish(FIVE, together=[["e", "c"], [], ["b"], ("c", "c", "a")], apart=[("d", "a"), ["a", "d"]])
        self.assertIs(wish.pond, FIVE)
        self.assertEqual(shown(wish.groups), shown((("c", "a", "e"), ("b",), ("d",))))
        self.assertEqual(shown(wish.apart), shown((("a", "d"),)))
        empty = Wish(FIVE)
        self.assertEqual(shown(empty.groups), shown(FIVE_SINGLES))
        self.assertEqual(shown(empty.apart), shown(()))
        wish = Wish(pond=ALONE, together=[["a", "a"], []], apart=[])
        self.assertEqual(shown(wish.groups), shown(ONLY))
        wish = Wish(TEN, together=[TEN.names[at:at + 2] for at in range(9)], apart=pairs_in_order(TEN))
        self.assertEqual(wish.groups, WHOLE)
        self.assertEqual(wish.apart, tuple(pairs_in_order(TEN)))

    def test_groups_that_share_lots_are_one(self):
        wish = Wish(FIVE, together=(("d", "a"), ("b", "e"), ("b", "a")))
        self.assertEqual(wish.groups, (("c",), ("a", "e", "b", "d")))
        # The groups may cross.
        self.assertEqual(STRIFE.groups, (("c", "e"), ("a", "b"), ("d",)))
        self.assertEqual(Wish(FIVE, together=[["b"], ["c"], [], []]).groups, FIVE_SINGLES)

    def test_apart_is_in_pair_order(self):
        pairs = [("d", "b"), ("a", "c"), ("b", "d"), ("d", "c"), ("c", "a")]
        wish = Wish(FIVE, apart=pairs)
        self.assertEqual(shown(wish.apart), shown((("c", "a"), ("c", "d"), ("b", "d"))))

    def test_faults(self):
        def make(*args, **kwargs):
            return Wish(FIVE, *args, **kwargs)
        self.refuses(UnknownLot, {"name": "x"}, make, together=[["a", "x"], ["y"]], apart=[("z", "z")])
        self.refuses(UnknownLot, {"name": "y"}, make, together=[[], ["y", "x"]])
        self.refuses(UnknownLot, {"name": "x"}, make, together=[["x"]])
        self.refuses(UnknownLot, {"name": "z"}, make, together=[["a"]], apart=[("a", "b"), ("z", "y")])
        self.refuses(UnknownLot, {"name": "y"}, make, apart=[("a", "y"), ("a", "a")])
        self.refuses(UnknownLot, {"name": "x"}, make, apart=[("x", "x")])
        self.refuses(SameLot, {"name": "a"}, make, apart=[("b", "c"), ("a", "a"), ("x", "y")])

    def test_later_changes_of_the_arguments(self):
        together = [["c", "e"], ["b"]]
        apart = [["a", "d"]]
        wish = Wish(FIVE, together=together, apart=apart)
        before = shown(wish)
        together[1].append("e")
        together.append(["a", "d"])
        apart[0][0] = "c"
        apart.append(["a", "b"])
        self.assertEqual(shown(wish), before)
        self.assertEqual(wish.must(), [("c", "e")])

    def test_call_and_fault(self):
        cases = [
            (MILD, FIVE_SINGLES, ("together", ("c", "e"))),
            (MILD, (("c", "e"), ("a",), ("b",), ("d",)), None),
            (MILD, (("c", "e"), ("a",), ("b", "d")), ("apart", ("b", "d"))),
            (MILD, (("c", "a", "e"), ("b", "d")), ("apart", ("c", "a"))),
            (MILD, (("c",), ("a", "e"), ("b", "d")), ("together", ("c", "e"))),
            (Wish(FIVE), FIVE_SINGLES, None),
            (Wish(ALONE), ONLY, None),
            (Wish(TEN, together=[("j", "f"), ("a", "d")], apart=[("a", "j")]), TEN_WORLD, None),
            (Wish(TEN, together=[TEN.names], apart=[("a", "j")]), WHOLE, ("apart", ("j", "a"))),
        ]
        for wish, world, fault in cases:
            self.gives(fault, wish.fault, world)
            self.gives(fault, wish.fault, world=world)
            self.gives(fault is None, wish, world)

    def test_faults_of_worlds(self):
        wish = Wish(SIX, together=[["f", "c"]])
        self.refuses_bad_worlds(wish, [])
        self.refuses_bad_worlds(wish.fault, [])
        self.refuses_bad_worlds(wish.history, [])

    def test_call_and_fault_by_their_words(self):
        for wish in some_wishes():
            for world in all_worlds(wish.pond):
                self.assertIs(wish(world), grants(wish, world))
                parted = [
                    pair for pair in pairs_in_order(wish.pond)
                    if is_together(wish.groups, *pair) and not is_together(world, *pair)
                ]
                met = [pair for pair in wish.apart if is_together(world, *pair)]
                faults = [("together", pair) for pair in parted] + [("apart", pair) for pair in met]
                self.assertEqual(wish.fault(world), faults[0] if faults else None)

    def test_add(self):
        one = Wish(FIVE, together=[["c", "e"], ["b", "d"]], apart=[("d", "a")])
        two = Wish(Pond(FIVE.names, strifes=FIVE.strifes), together=[["e", "b"]], apart=[("a", "d"), ("c", "a")])
        both = one + two
        self.gives(both, operator.add, one, two)
        self.assertIs(both.pond, FIVE)
        self.assertIs((two + one).pond, two.pond)
        self.assertEqual(shown(both.groups), shown((("c", "e", "b", "d"), ("a",))))
        self.assertEqual(shown(both.apart), shown((("c", "a"), ("a", "d"))))
        self.assertEqual((one + one).groups, one.groups)
        self.assertEqual((Wish(ALONE) + Wish(ALONE)).groups, ONLY)
        for other in (FIVE.bare(), FIVE.with_strife("c", "a"), Pond(["a", "c", "e", "b", "d"]), ALONE):
            self.refuses(OtherPond, {}, operator.add, one, Wish(other))
            self.refuses(OtherPond, {}, operator.add, Wish(other), one)

    def test_a_sum_asks_for_all(self):
        for one, two in zip(wishes(FIVE, 30, 5), wishes(FIVE, 30, 6)):
            both = one + two
            for world in all_worlds(FIVE):
                self.assertIs(both(world), one(world) and two(world))


class TestGranting(PromiseCase):
    def test_least(self):
        self.gives((("c", "e"), ("a",), ("b",), ("d",)), MILD.least)
        self.gives(FIVE_SINGLES, Wish(FIVE).least)
        # The groups cross, so their closing is one field.
        crossing = Wish(FIVE.bare(), together=[["c", "e"], ["a", "b"]])
        self.gives((("c", "a", "e", "b"), ("d",)), crossing.least)
        self.gives(ONLY, Wish(ALONE).least)
        self.gives(TEN_WORLD, Wish(TEN, together=TEN_WORLD, apart=[("j", "i")]).least)

    def test_wishes_that_cannot_be_granted(self):
        cases = [
            (STRIFE, ("strife", ("a", "b"))),
            (APART, ("apart", ("a", "e"))),
            (BOTH, ("apart", ("e", "b"))),
        ]
        for wish, cause in cases:
            for method in (wish.least, wish.must, wish.may, wish.greatest):
                self.refuses(Ungranted, {"cause": cause}, method)
            self.gives([], wish.granting)
            reply = wish.answer()
            self.assertEqual(reply[:2], cause)
            self.assertTrue(is_why(FIVE, [wish.groups], *cause[1], reply[2]))
            self.gives(reply, wish.answer)

    def test_answer(self):
        self.gives(("world", (("c", "e"), ("a",), ("b",), ("d",))), MILD.answer)
        self.gives(("world", ONLY), Wish(ALONE).answer)
        wish = Wish(FIVE, together=[["d", "c"]])
        self.gives(("strife", ("c", "d"), (("given", 0, "c", "d"),)), wish.answer)

    def test_must_and_may(self):
        self.gives([("c", "e")], MILD.must)
        self.gives([("c", "e"), ("c", "b"), ("e", "b")], MILD.may)
        self.gives([], Wish(FIVE).must)
        self.gives([], Wish(ALONE).must)
        self.gives([], Wish(ALONE).may)
        self.gives([("j", "i")], Wish(TEN, together=[["i", "j"]]).must)
        self.gives(pairs_in_order(SEVEN), Wish(SEVEN).may)
        self.gives(pairs_in_order(TEN), Wish(TEN, together=[TEN.names]).must)

    def test_granting_and_greatest(self):
        least = (("c", "e"), ("a",), ("b",), ("d",))
        greatest = (("c", "e", "b"), ("a",), ("d",))
        self.gives([greatest, least], MILD.granting)
        self.gives([greatest], MILD.greatest)
        self.gives([ONLY], Wish(ALONE).granting)
        self.gives([ONLY], Wish(ALONE).greatest)
        self.gives([(FIVE.names,)], Wish(FIVE.bare()).greatest)
        self.assertEqual(len(Wish(SIX.bare()).granting()), 132)

    def test_lifts(self):
        self.gives([], MILD.lifts)
        self.gives([("a", "b")], STRIFE.lifts)
        self.gives([("c", "d"), ("a", "b")], Wish(FIVE, together=[FIVE.names]).lifts)
        self.gives([], Wish(ALONE).lifts)
        self.refuses(Ungranted, {"cause": ("apart", ("a", "e"))}, APART.lifts)
        self.refuses(Ungranted, {"cause": ("apart", ("e", "b"))}, BOTH.lifts)

    def test_history(self):
        self.gives([("c", "e")], MILD.history, FIVE_SINGLES)
        self.gives([("c", "e")], MILD.history, start=(("c", "b"), ("a",), ("e",), ("d",)))
        self.gives([], MILD.history, (("c", "e", "b"), ("a",), ("d",)))
        # The groups cross the start, so more must be joined.
        wish = Wish(FIVE.bare(), together=[["c", "e"]], apart=[("c", "d")])
        self.gives([("c", "a"), ("c", "e")], wish.history, (("c",), ("a", "b"), ("e",), ("d",)))
        self.gives([], Wish(ALONE).history, ONLY)
        self.gives([("j", lot) for lot in TEN.names[1:]], Wish(TEN, together=[TEN.names]).history, TEN_SINGLES)

    def test_faults_of_history(self):
        cause = ("apart", ("c", "d"))
        wish = Wish(FIVE.bare(), together=[["c", "e"]], apart=[("c", "d"), ("b", "d")])
        self.refuses(Ungranted, {"cause": cause}, wish.history, (("c",), ("a", "d"), ("e",), ("b",)))
        wish = Wish(FIVE, together=[["c", "e"]])
        start = (("c",), ("a", "d"), ("e",), ("b",))
        self.refuses(Ungranted, {"cause": ("strife", ("c", "d"))}, wish.history, start)
        wish = Wish(FIVE, together=[["c", "e"]], apart=[("d", "e")])
        self.refuses(Ungranted, {"cause": ("apart", ("e", "d"))}, wish.history, start)
        crossed = (("c", "e"), ("a", "b"), ("d",))
        self.refuses(Crossing, {"lots": ("c", "a", "e", "b")}, STRIFE.history, crossed)
        self.refuses(AtStrife, {"pair": ("c", "d")}, STRIFE.history, (("c", "d"), ("a",), ("e",), ("b",)))
        self.refuses(BadParting, {}, STRIFE.history, ())
        self.refuses(Ungranted, {"cause": ("strife", ("a", "b"))}, STRIFE.history, FIVE_SINGLES)

    def test_too_many_lots(self):
        for names, calls in ((8, ("may",)), (7, ("granting", "greatest")), (6, ("greatest",))):
            pond = Pond(TEN.names[:names])
            limit = {"may": 7, "granting": 6, "greatest": 5}
            # Also where the wish cannot be granted.
            for wish in (Wish(pond), Wish(pond, together=[["j", "i"]], apart=[("i", "j")])):
                for call in calls:
                    self.refuses(TooMany, {"count": names, "limit": limit[call]}, getattr(wish, call))
        wish = Wish(TEN, together=[["j", "i"]], apart=[("i", "j")])
        for call, limit in (("may", 7), ("granting", 6), ("greatest", 5)):
            self.refuses(TooMany, {"count": 10, "limit": limit}, getattr(wish, call))

    def test_by_their_words(self):
        for wish in some_wishes():
            pond = wish.pond
            found = granting_by_words(wish)
            self.assertEqual(wish.granting(), found)
            closing = closing_by_words(pond, wish.groups)
            cause = cause_by_words(wish, closing)
            self.assertIs(cause is None, len(found) > 0)
            if cause is None:
                self.check_granted(wish, found)
            else:
                for method in (wish.least, wish.must, wish.may, wish.greatest):
                    self.refuses(Ungranted, {"cause": cause}, method)
                self.assertEqual(wish.answer()[:2], cause)
            self.assertTrue(wish.is_answer(wish.answer()))

    def check_granted(self, wish, found):
        pond = wish.pond
        least = least_of(found)
        self.assertEqual(wish.least(), least)
        self.assertEqual(wish.answer(), ("world", least))
        pairs = pairs_in_order(pond)
        must = [pair for pair in pairs if all(is_together(world, *pair) for world in found)]
        self.assertEqual(wish.must(), must)
        may = [pair for pair in pairs if any(is_together(world, *pair) for world in found)]
        self.assertEqual(wish.may(), may)
        greatest = [
            world for world in found
            if not any(lies_within(world, other) for other in found if other != world)
        ]
        self.assertEqual(wish.greatest(), greatest)
        strict = Pond(pond.names, strifes=[*pond.strifes, *wish.apart])
        self.assertEqual(ends(strict, least), greatest)
        self.assertEqual(wish.lifts(), [])

    def test_lifts_against_a_pond_without_these_strifes(self):
        for wish in some_wishes():
            pond = wish.pond
            closing = closing_by_words(pond, wish.groups)
            met = [pair for pair in wish.apart if is_together(closing, *pair)]
            if met:
                self.refuses(Ungranted, {"cause": ("apart", met[0])}, wish.lifts)
                continue
            lifts = wish.lifts()
            self.assertEqual(lifts, [pair for pair in pond.strifes if is_together(closing, *pair)])
            rest = [pair for pair in pond.strifes if pair not in lifts]
            self.assertTrue(self.copied(wish, Pond(pond.names, strifes=rest)).granting())
            for pair in lifts:
                self.assertFalse(self.copied(wish, Pond(pond.names, strifes=[*rest, pair])).granting())

    def copied(self, wish, pond):
        return Wish(pond, together=wish.groups, apart=wish.apart)

    def test_history_replayed(self):
        for wish in some_wishes():
            pond = wish.pond
            for start in all_worlds(pond)[::3]:
                goal = closing_by_words(pond, [*start, *wish.groups])
                cause = cause_by_words(wish, goal)
                if cause is not None:
                    self.refuses(Ungranted, {"cause": cause}, wish.history, start)
                    continue
                row = wish.history(start)
                self.assertEqual(replay(pond, start, row), goal)
                self.assertEqual(row, history(pond, start, goal))
                self.assertTrue(wish(goal))
                over = [world for world in granting_by_words(wish) if lies_within(start, world)]
                self.assertEqual(least_of(over), goal)


class TestAnswers(PromiseCase):
    def accepts(self, wish, reply):
        self.gives(True, wish.is_answer, reply)
        self.gives(True, wish.is_answer, reply=reply)

    def rejects(self, wish, reply):
        self.gives(False, wish.is_answer, reply)

    def test_worlds(self):
        for world in MILD.granting():
            self.accepts(MILD, ("world", world))
        for world in (FIVE_SINGLES, (("c", "e"), ("a",), ("b", "d")), (("c", "a", "e"), ("b",), ("d",))):
            self.rejects(MILD, ("world", world))
        # No partings, crossing ones, and one with a strife together.
        for world in ((), ((),), (("e", "c"), ("a",), ("b",), ("d",)), (("c", "e"), ("a",), ("b",)),
                      (("c", "e"), ("x",)), (("c", "e"), ("a", "b"), ("d",)),
                      (("c", "e", "d"), ("a",), ("b",)), (("c", "e"), ("b",), ("a",), ("d",))):
            self.rejects(MILD, ("world", world))
            self.rejects(STRIFE, ("world", world))

    def test_papers(self):
        reasons = [("given", 0, "c", "e"), ("given", 0, "a", "b"), ("crossed", 0, 1, "b", "e")]
        # Each pair kept apart and each strife will do, whichever cause the wish has.
        for pair in (("e", "b"), ("b", "e"), ["b", "e"]):
            self.accepts(BOTH, ("apart", pair, reasons))
            self.accepts(BOTH, ("apart", pair, tuple(reasons)))
        for pair in (("a", "b"), ("b", "a"), ["b", "a"]):
            self.accepts(BOTH, ("strife", pair, reasons[:2]))
            self.accepts(STRIFE, ("strife", pair, reasons[:2]))
            self.rejects(BOTH, ("apart", pair, reasons[:2]))
            self.rejects(FIVE_WISH, ("strife", pair, reasons[:2]))
        self.rejects(BOTH, ("strife", ("e", "b"), reasons))
        self.rejects(STRIFE, ("apart", ("e", "b"), reasons))

    def test_wrong_papers(self):
        given = ("given", 0, "a", "b")
        for pair in (("a", "x"), ("x", "a"), ("x", "x"), ("a", "a"), ("", ""), ("c", "d"), ("d", "c"),
                     ("c", "e")):
            for word in ("strife", "apart"):
                self.rejects(STRIFE, (word, pair, [given]))
                self.rejects(STRIFE, (word, list(pair), [("given", 0, *pair)]))
        for reasons in ([], (), [()], [("given", 1, "a", "b")], [("given", -1, "a", "b")], [("given", "a", "b")],
                        [given, ("given", 0, "c", "e")], [("given", 0, "c", "d"), given]):
            self.rejects(STRIFE, ("strife", ("a", "b"), reasons))
        self.accepts(STRIFE, ("strife", ("a", "b"), [given]))

    def test_other_words_and_numbers(self):
        reasons = [("given", 0, "a", "b")]
        world = MILD.least()
        for word in ("", "World", "granted", "together", "strifes"):
            self.rejects(STRIFE, (word, ("a", "b"), reasons))
            self.rejects(MILD, (word, world))
            self.rejects(MILD, (word,))
            self.rejects(STRIFE, (word, "a", 0))
            self.rejects(STRIFE, (word, 1, 2, 3))
        self.rejects(MILD, ("world",))
        self.rejects(MILD, ("world", world, world))
        self.rejects(MILD, ("world", world, ()))
        for word in ("strife", "apart"):
            self.rejects(STRIFE, (word,))
            self.rejects(STRIFE, (word, ("a", "b")))
            self.rejects(STRIFE, (word, ("a", "b"), reasons, reasons))

    def test_small_and_great_ponds(self):
        self.accepts(Wish(ALONE), ("world", ONLY))
        self.rejects(Wish(ALONE), ("strife", ("a", "a"), []))
        wish = Wish(TEN, together=[TEN.names[at:at + 2] for at in range(9)], apart=[("a", "j")])
        self.accepts(wish, wish.answer())
        self.assertEqual(wish.answer()[:2], ("apart", ("j", "a")))


# A pond in which a and b are not at strife.
FIVE_WISH = Wish(FIVE.bare(), together=[["c", "e"], ["a", "b"]], apart=[("d", "c")])


class TestCures(PromiseCase):
    def test_is_cure(self):
        crossed = (("c", "e"), ("a", "b"), ("d",))
        self.gives(False, is_cure, FIVE, crossed, [])
        self.gives(True, is_cure, FIVE, crossed, ["a"])
        self.gives(True, is_cure, FIVE, crossed, ("b", "b", "b"))
        self.gives(False, is_cure, FIVE, crossed, ["c"])
        self.gives(True, is_cure, pond=FIVE, parting=crossed, lots=["a", "c", "a"])
        self.gives(True, is_cure, FIVE.bare(), crossed, ["c"])
        self.gives(True, is_cure, ALONE, ONLY, [])
        self.gives(True, is_cure, TEN, WHOLE, TEN.names * 20)
        for parting in ((), (("c", "e"), ("b", "a"), ("d",)), (("c", "e"),)):
            self.refuses(BadParting, {}, is_cure, FIVE, parting, ["x"])
        self.refuses(UnknownLot, {"name": "x"}, is_cure, FIVE, FIVE_SINGLES, ["a", "x", "y"])

    def test_least_cure(self):
        crossed = (("c", "e"), ("a", "b"), ("d",))
        self.gives(["a"], least_cure, FIVE, crossed)
        self.gives(["c"], least_cure, FIVE.bare(), crossed)
        self.gives([], least_cure, pond=FIVE, parting=FIVE_SINGLES)
        self.gives(["c", "a"], least_cure, FIVE, (FIVE.names,))
        self.gives([], least_cure, ALONE, ONLY)
        self.gives(["j"], least_cure, SEVEN, (("j", "h"), ("i", "g"), ("f",), ("e",), ("d",)))
        all_strifes = Pond(SEVEN.names, strifes=pairs_in_order(SEVEN))
        self.gives(list(SEVEN.names[:6]), least_cure, all_strifes, (SEVEN.names,))
        self.refuses(TooMany, {"count": 8, "limit": 7}, least_cure, EIGHT, (EIGHT.names,))
        self.refuses(TooMany, {"count": 10, "limit": 7}, least_cure, TEN, ())
        for parting in ((), (("c", "e"), ("b", "a"), ("d",)), (("c", "e"),)):
            self.refuses(BadParting, {}, least_cure, FIVE, parting)

    def test_by_their_words(self):
        ponds = [FIVE, Pond(["c", "a", "e", "b", "d"], strifes=[("c", "e"), ("a", "b"), ("b", "d")]),
                 Pond(["b", "a"], strifes=[("a", "b")]), Pond(["c", "a", "d", "b"])]
        for pond in ponds:
            for parting in all_partings(pond):
                cures = []
                for many in range(len(pond.names) + 1):
                    for lots in itertools.combinations(pond.names, many):
                        groups = [[lot for lot in field if lot not in lots] for field in parting]
                        groups = [group for group in groups if group] + [[lot] for lot in lots]
                        right = is_world(pond, sorted_parting(pond, groups))
                        self.assertIs(is_cure(pond, parting, lots[::-1]), right)
                        if right:
                            cures.append(list(lots))
                self.assertEqual(least_cure(pond, parting), cures[0])
                self.assertIs(cures[0] == [], is_world(pond, parting))


if __name__ == "__main__":
    unittest.main()
