"""roads.py: points 17, 20, 26 and 27."""

import itertools
import unittest

from hedgejoin.deeds import join, pasts
from hedgejoin.errors import AtStrife, BadParting, Crossing, NotWithin
from hedgejoin.ponds import Pond
from hedgejoin.roads import (
    answer, deeds_needed, history, history_through, is_answer, last_worlds, leads, next_deeds,
)
from hedgejoin.rows import is_history, replay
from tests.helpers import (
    ALONE, BAD_WORLDS, SINGLES, SIX, TEN, TEN_SINGLES, TEN_WORLD, WITH_STRIFES, PromiseCase,
    all_partings, all_roads, all_worlds, code_of, deeds_from, fours_in_order, has_strife,
    histories_by_words, is_together, is_uncrossed, lies_within, pairs_in_order, small_ponds,
)

START = (("f", "e"), ("a",), ("b", "d"), ("c",))
END = (("f", "a", "e"), ("b", "d", "c"))
# START is not within ASIDE: f, e are together in START and apart in ASIDE.
ASIDE = (("f", "a"), ("e",), ("b",), ("d",), ("c",))
BAD_START = (("a",),)
FOUR = Pond(["a", "b", "c", "d"], strifes=[("c", "a"), ("b", "d")])
FOUR_SINGLES = (("a",), ("b",), ("c",), ("d",))


class TestRoads(PromiseCase):
    def test_leads(self):
        self.gives(True, leads, SIX, START, END)
        self.gives(True, leads, SIX, SINGLES, START)
        self.gives(True, leads, pond=SIX, start=START, end=START)
        self.gives(False, leads, SIX, END, START)
        self.gives(False, leads, SIX, START, ASIDE)
        self.gives(True, leads, ALONE, (("a",),), (("a",),))
        self.gives(True, leads, TEN, TEN_SINGLES, (TEN.names,))
        self.gives(False, leads, TEN, (TEN.names,), TEN_SINGLES)

    def test_deeds_needed(self):
        self.gives(2, deeds_needed, SIX, START, END)
        self.gives(4, deeds_needed, pond=SIX, start=SINGLES, end=END)
        self.gives(0, deeds_needed, SIX, END, END)
        self.gives(9, deeds_needed, TEN, TEN_SINGLES, (TEN.names,))
        self.gives(0, deeds_needed, ALONE, (("a",),), (("a",),))

    def test_next_deeds(self):
        self.gives([("f", "a"), ("b", "c")], next_deeds, SIX, START, END)
        expected = [("f", "a"), ("f", "e"), ("a", "e"), ("b", "d"), ("b", "c"), ("d", "c")]
        self.gives(expected, next_deeds, pond=SIX, start=SINGLES, end=END)
        self.gives([], next_deeds, SIX, END, END)
        self.gives(pairs_in_order(TEN), next_deeds, TEN, TEN_SINGLES, (TEN.names,))
        self.gives([], next_deeds, ALONE, (("a",),), (("a",),))
        # b, d stand apart on two sides of the field a c.
        pond = FOUR.bare()
        expected = [("a", "b"), ("a", "d")]
        world = (("a", "c"), ("b",), ("d",))
        self.gives(expected, next_deeds, pond, world, (pond.names,))

    def test_history(self):
        self.gives([("f", "a"), ("b", "c")], history, SIX, START, END)
        row = [("f", "a"), ("f", "e"), ("b", "d"), ("b", "c")]
        self.gives(row, history, pond=SIX, start=SINGLES, end=END)
        self.gives([], history, SIX, END, END)
        self.gives([], history, ALONE, (("a",),), (("a",),))
        self.gives([("j", lot) for lot in TEN.names[1:]], history, TEN, TEN_SINGLES, (TEN.names,))
        end = (TEN.names,)
        row = history(TEN, TEN_WORLD, end)
        self.assertEqual(len(row), 6)
        self.assertTrue(is_history(TEN, TEN_WORLD, end, row))

    def test_last_worlds(self):
        before = [(("f", "a", "e"), ("b", "d"), ("c",)), (("f", "e"), ("a",), ("b", "d", "c"))]
        self.gives(before, last_worlds, SIX, START, END)
        before = [(("f", "a"), ("e",)), (("f", "e"), ("a",)), (("f",), ("a", "e"))]
        three = Pond(["f", "a", "e"])
        self.gives(before, last_worlds, three, (("f",), ("a",), ("e",)), (three.names,))
        self.gives([], last_worlds, SIX, END, END)
        nearer = (("f", "a", "e"), ("b", "d"), ("c",))
        self.gives([START], last_worlds, pond=SIX, start=START, end=nearer)
        self.gives([], last_worlds, ALONE, (("a",),), (("a",),))
        self.assertEqual(len(last_worlds(TEN, TEN_SINGLES, (TEN.names,))), 45)

    def test_faults_of_worlds(self):
        for entry in (leads, deeds_needed, next_deeds, history, last_worlds):
            self.refuses_bad_worlds(entry, [SIX], [BAD_START])
            self.refuses_bad_worlds(entry, [SIX, START])
        for entry in (answer, is_answer):
            more = [("odd", ())] if entry == is_answer else []
            self.refuses_bad_worlds(entry, [SIX], [BAD_START, *more])
            self.refuses(BadParting, {}, entry, SIX, START, BAD_START, *more)
            self.refuses(BadParting, {}, entry, SIX, START, (), *more)
            unsorted = (("a",), ("f", "e"), ("b", "d"), ("c",))
            self.refuses(BadParting, {}, entry, SIX, START, unsorted, *more)

    def test_not_within(self):
        for entry in (deeds_needed, next_deeds, history, last_worlds):
            self.refuses(NotWithin, {"pair": ("f", "a")}, entry, SIX, END, START)
            self.refuses(NotWithin, {"pair": ("f", "e")}, entry, SIX, START, ASIDE)
            pair = {"pair": ("j", "i")}
            self.refuses(NotWithin, pair, entry, TEN, (TEN.names,), TEN_SINGLES)

    def test_against_all_histories(self):
        for pond, start, end in all_roads(4):
            rows = histories_by_words(pond, start, end)
            self.assertEqual(history(pond, start, end), rows[0])
            self.assertEqual({len(row) for row in rows}, {deeds_needed(pond, start, end)})
            self.assertEqual(replay(pond, start, rows[0]), end)
            firsts = []
            for row in rows:
                if row and row[0] not in firsts:
                    firsts.append(row[0])
            self.assertEqual(next_deeds(pond, start, end), firsts)

    def test_the_main_fact(self):
        for pond in [*small_ponds(4), *WITH_STRIFES[:3]]:
            worlds = all_worlds(pond)
            for start in worlds:
                reached = [start]
                for world in reached:
                    reached.extend(
                        after for _, after in deeds_from(pond, world) if after not in reached
                    )
                for end in worlds:
                    self.assertIs(leads(pond, start, end), end in reached)
                    if end not in reached:
                        self.assertEqual(histories_by_words(pond, start, end), [])

    def test_last_worlds_against_pasts_and_leads(self):
        for pond, start, end in all_roads(5):
            found = last_worlds(pond, start, end)
            self.assertEqual(found, [one for one in pasts(pond, end) if leads(pond, start, one)])
            self.assertEqual(found == [], start == end)
            codes = [code_of(pond, one) for one in found]
            self.assertEqual(codes, sorted(codes))

    def test_no_deed_that_stays_within_is_fatal(self):
        for pond, start, end in all_roads(5):
            inside = [
                deed for deed, after in deeds_from(pond, start) if lies_within(after, end)
            ]
            self.assertEqual(next_deeds(pond, start, end), inside)
            self.assertEqual(inside == [], start == end)
            for x, y in inside:
                self.assertTrue(leads(pond, join(pond, start, x, y), end))


class TestHistoryThrough(PromiseCase):
    def test_history_through(self):
        stop = (("f",), ("a", "e"), ("b", "d"), ("c",))
        row = [("a", "e"), ("b", "d"), ("f", "a"), ("b", "c")]
        self.gives(row, history_through, SIX, SINGLES, END, [stop])
        later = (("f",), ("a", "e"), ("b", "d", "c"))
        row = [("a", "e"), ("b", "d"), ("b", "c"), ("f", "a")]
        self.gives(row, history_through, SIX, SINGLES, END, [stop, later])
        self.gives(row, history_through, pond=SIX, start=SINGLES, end=END, stops=(stop, later))

    def test_no_stop_and_repeated_stops(self):
        plain = [("f", "a"), ("f", "e"), ("b", "d"), ("b", "c")]
        self.gives(plain, history_through, SIX, SINGLES, END, [])
        self.gives(plain, history_through, SIX, SINGLES, END, ())
        self.gives(plain, history_through, SIX, SINGLES, END, [SINGLES, SINGLES, END, END])
        row = [("f", "e"), ("b", "d"), ("f", "a"), ("b", "c")]
        self.gives(row, history_through, SIX, SINGLES, END, [START])
        self.gives(row, history_through, SIX, SINGLES, END, [START, START, START])
        self.gives(row, history_through, SIX, SINGLES, END, [START] * 200)
        self.gives([], history_through, SIX, END, END, [END])
        self.gives([], history_through, SIX, END, END, [])
        self.gives([], history_through, ALONE, (("a",),), (("a",),), [(("a",),)])

    def test_ten_lots(self):
        row = [("j", "f"), ("i", "g"), ("d", "a")]
        more = history(TEN, TEN_WORLD, (TEN.names,))
        expected = [*row, *more]
        self.gives(expected, history_through, TEN, TEN_SINGLES, (TEN.names,), [TEN_WORLD])

    def test_faults(self):
        self.refuses_bad_worlds(history_through, [SIX], [BAD_START, [BAD_START]])
        self.refuses_bad_worlds(history_through, [SIX, START], [[BAD_START]])
        # Start and end come before the stops, and the faults of all stops before their order.
        pair = {"pair": ("f", "a")}
        self.refuses(NotWithin, pair, history_through, SIX, END, START, [BAD_START])
        self.refuses(NotWithin, pair, history_through, SIX, END, START, [])
        for parting, kind, attributes in BAD_WORLDS:
            for stops in ([parting], [START, parting], [ASIDE, parting, ()], (END, START, parting)):
                self.refuses(kind, attributes, history_through, SIX, SINGLES, END, stops)

    def test_neighbors(self):
        self.refuses(
            NotWithin, {"pair": ("f", "e")}, history_through, SIX, START, END, [SINGLES])
        self.refuses(
            NotWithin, {"pair": ("f", "a")}, history_through, SIX, SINGLES, START, [END])
        self.refuses(
            NotWithin, {"pair": ("f", "a")}, history_through, SIX, SINGLES, END, [END, START])
        self.refuses(
            NotWithin, {"pair": ("f", "e")}, history_through, SIX, SINGLES, END, [START, ASIDE])
        self.refuses(
            NotWithin, {"pair": ("f", "a")}, history_through, SIX, SINGLES, END, [ASIDE, START])
        outside = (("f",), ("a",), ("e", "b"), ("d",), ("c",))
        self.refuses(
            NotWithin, {"pair": ("e", "b")}, history_through, SIX, SINGLES, END, [outside])
        self.refuses(
            NotWithin, {"pair": ("f", "e")}, history_through, SIX, START, END, [outside])


class TestAnswer(PromiseCase):
    def test_answer(self):
        self.gives(("history", (("f", "a"), ("b", "c"))), answer, SIX, START, END)
        self.gives(("history", ()), answer, pond=SIX, start=START, goal=START)
        self.gives(("history", ()), answer, ALONE, (("a",),), (("a",),))
        self.gives(("parted", ("f", "a")), answer, SIX, END, START)
        goal = (("f",), ("a",), ("e", "d"), ("b",), ("c",))
        self.gives(("strife", ("e", "d")), answer, SIX, START, goal)
        self.gives(("strife", ("f", "c")), answer, SIX, START, (SIX.names,))
        goal = (("f", "b"), ("a",), ("e", "d"), ("c",))
        self.gives(("crossing", ("f", "e", "b", "d")), answer, SIX, START, goal)
        row = tuple([("j", lot) for lot in TEN.names[1:]])
        self.gives(("history", row), answer, TEN, TEN_SINGLES, (TEN.names,))

    def test_order_of_papers(self):
        # This goal crosses, has a strife together, and parts what is together in the start.
        goal = (("a", "c"), ("b", "d"))
        start = (("a", "b"), ("c",), ("d",))
        self.gives(("crossing", ("a", "b", "c", "d")), answer, FOUR, start, goal)
        goal = (("a", "c"), ("b",), ("d",))
        self.gives(("strife", ("a", "c")), answer, FOUR, start, goal)
        self.gives(("parted", ("a", "b")), answer, FOUR.bare(), start, goal)

    def test_against_is_answer(self):
        for pond in [*small_ponds(4), *WITH_STRIFES[:3]]:
            for start, goal in itertools.product(all_worlds(pond), all_partings(pond)):
                told = answer(pond, start, goal)
                self.assertIs(is_answer(pond, start, goal, told), True)
                if not is_uncrossed(pond, goal):
                    self.assertEqual(told[0], "crossing")
                elif has_strife(pond, goal):
                    self.assertEqual(told[0], "strife")
                elif lies_within(start, goal):
                    expected = ("history", tuple(histories_by_words(pond, start, goal)[0]))
                    self.assertEqual(told, expected)
                else:
                    self.assertEqual(told[0], "parted")

    def test_first_papers(self):
        for pond in [*small_ponds(4), *WITH_STRIFES[:3]]:
            for start, goal in itertools.product(all_worlds(pond), all_partings(pond)):
                word, thing = answer(pond, start, goal)
                if word == "crossing":
                    self.assertEqual(thing, [
                        (a, b, c, d) for a, b, c, d in fours_in_order(pond)
                        if is_together(goal, a, c) and is_together(goal, b, d)
                        and not is_together(goal, a, b)
                    ][0])
                elif word == "strife":
                    together = [pair for pair in pond.strifes if is_together(goal, *pair)]
                    self.assertEqual(thing, together[0])
                elif word == "parted":
                    self.assertEqual(thing, [
                        pair for pair in pairs_in_order(pond)
                        if is_together(start, *pair) and not is_together(goal, *pair)
                    ][0])


def is_right(pond, start, goal, reply):
    """Point 27 and what the entry says of pairs the other way around."""
    word, thing = reply
    if any(not isinstance(item, str) or item not in pond.names for item in thing):
        return False
    if word == "crossing" and len(thing) == 4:
        a, b, c, d = thing
        in_order = thing in fours_in_order(pond)
        return (in_order and is_together(goal, a, c) and is_together(goal, b, d)
                and not is_together(goal, a, b))
    if word in ("strife", "parted") and len(thing) == 2 and thing[0] != thing[1]:
        x, y = thing
        if word == "strife":
            at_strife = (x, y) in pond.strifes or (y, x) in pond.strifes
            return at_strife and is_together(goal, x, y)
        return is_together(start, x, y) and not is_together(goal, x, y)
    return False


class TestIsAnswer(PromiseCase):
    def test_histories(self):
        right = [
            (("f", "a"), ("b", "c")), (("b", "c"), ("f", "a")), (("a", "e"), ("c", "d")),
            (("c", "b"), ("e", "a")),
        ]
        for row in right:
            self.gives(True, is_answer, SIX, START, END, ("history", row))
        wrong = [
            (), (("f", "a"),), (("f", "a"), ("b", "c"), ("b", "f")), (("f", "a"), ("f", "a")),
            (("b", "c"), ("b", "c")), (("f", "a"), ("a", "a"), ("b", "c")),
            (("f", "a"), ("b", "x")), (("x", "a"), ("b", "c")), (("f", "a"), ("b", "e")),
            (("f", "c"), ("b", "a")), (("a", "b"), ("b", "c")),
            ("fa", "bc"), ("f", "a"), (("f", "a"), "bc"), ("f", ("f", "a"), ("b", "c")),
            (("f", "a"), ("b", "c"), "x"), (("f", "a"), ("b", "c"), ""), ("",),
        ]
        for row in wrong:
            self.gives(False, is_answer, SIX, START, END, ("history", row))
        self.gives(True, is_answer, SIX, START, START, ("history", ()))
        self.gives(True, is_answer, ALONE, (("a",),), (("a",),), ("history", ()))
        self.gives(False, is_answer, ALONE, (("a",),), (("a",),), ("history", (("a", "a"),)))
        self.gives(False, is_answer, SIX, END, START, ("history", ()))

    def test_any_history_of_ten_lots(self):
        goal = (TEN.names,)
        row = tuple([(lot, "e") for lot in TEN.names if lot != "e"])
        reply = ("history", row)
        self.gives(True, is_answer, pond=TEN, start=TEN_SINGLES, goal=goal, reply=reply)
        self.gives(False, is_answer, TEN, TEN_SINGLES, goal, ("history", row[1:]))

    def test_a_goal_that_is_no_world_has_no_history(self):
        crossing = (("a", "c"), ("b", "d"))
        with_strife = (("a", "c"), ("b",), ("d",))
        rows = [(), (("a", "c"),), (("a", "c"), ("b", "d")), (("b", "d"), ("a", "c"))]
        for row in rows:
            self.gives(False, is_answer, FOUR, FOUR_SINGLES, crossing, ("history", row))
            self.gives(False, is_answer, FOUR, FOUR_SINGLES, with_strife, ("history", row))
            self.gives(False, is_answer, FOUR.bare(), FOUR_SINGLES, crossing, ("history", row))
        # Each deed must stand, also if the later ones would lead to the goal.
        pond = Pond(["a", "b", "c"], strifes=[("a", "b")])
        singles = (("a",), ("b",), ("c",))
        goal = (("a",), ("b", "c"))
        self.gives(True, is_answer, pond, singles, goal, ("history", (("b", "c"),)))
        self.gives(False, is_answer, pond, singles, goal, ("history", (("a", "b"), ("b", "c"))))
        self.gives(False, is_answer, pond, singles, goal, ("history", (("b", "c"), ("a", "c"))))

    def test_crossings(self):
        goal = (("f", "b"), ("a",), ("e", "d"), ("c",))
        self.gives(True, is_answer, SIX, START, goal, ("crossing", ("f", "e", "b", "d")))
        other = (("f", "e", "d"), ("a", "b", "c"))
        for lots in (("f", "a", "e", "b"), ("f", "a", "d", "c"), ("a", "e", "b", "d"),
                     ("e", "b", "d", "c"), ("a", "d", "c", "f")):
            expected = lots != ("a", "d", "c", "f")
            self.gives(expected, is_answer, SIX, SINGLES, other, ("crossing", lots))
        wrong = [
            (), ("f", "e", "b"), ("f", "e", "b", "d", "c"), ("e", "b", "d", "f"),
            ("b", "d", "f", "e"), ("f", "d", "b", "e"), ("f", "e", "f", "e"), ("f", "f", "b", "b"),
            ("f", "e", "b", "x"), ("x", "e", "b", "d"), ("f", "a", "b", "d"), ("f", "a", "e", "b"),
            (("f", "e"), ("b", "d")), ("f", "e", ("b", "d")), ("f", "e", "b", ("d", "d")),
            (("f", "e"), "e", "b", "d"), ("f", "f", "f", "f"), ("feb", "e", "b", "d"),
        ]
        for lots in wrong:
            self.gives(False, is_answer, SIX, START, goal, ("crossing", lots))
        # Four lots of one field do not cross.
        self.gives(False, is_answer, FOUR, FOUR_SINGLES, (FOUR.names,), ("crossing", FOUR.names))

    def test_strifes(self):
        goal = (SIX.names,)
        for pair in (("f", "c"), ("c", "f"), ("e", "d"), ("d", "e")):
            self.gives(True, is_answer, SIX, START, goal, ("strife", pair))
        wrong = [
            (), ("f",), ("f", "c", "e"), ("f", "f"), ("f", "x"), ("x", "c"), ("x", "x"),
            ("f", "a"), (("f", "c"),), ("f", ("f", "c")), (("f", "c"), "c"), (("f", "c"), ("e", "d")),
            ("fc", "c"), ("f", "c", "f", "c"),
        ]
        for pair in wrong:
            self.gives(False, is_answer, SIX, START, goal, ("strife", pair))
        self.gives(False, is_answer, SIX, START, END, ("strife", ("f", "c")))
        self.gives(False, is_answer, SIX.bare(), START, goal, ("strife", ("f", "c")))

    def test_parted(self):
        for pair in (("f", "a"), ("e", "a"), ("c", "b"), ("d", "c")):
            self.gives(True, is_answer, SIX, END, START, ("parted", pair))
        wrong = [
            (), ("f",), ("f", "e"), ("f", "f"), ("a", "a"), ("f", "b"), ("f", "a", "e"), ("f", "x"),
            ("x", "a"), ("x", "x"), (("f", "a"),), ("f", ("a", "e")), (("f", "a"), "a"),
            (("f", "a"), ("e", "a")),
        ]
        for pair in wrong:
            self.gives(False, is_answer, SIX, END, START, ("parted", pair))
        self.gives(False, is_answer, SIX, START, END, ("parted", ("f", "a")))

    def test_several_words_are_right(self):
        goal = (("a", "c"), ("b", "d"))
        start = (("a", "b"), ("c",), ("d",))
        right = [
            ("crossing", ("a", "b", "c", "d")), ("strife", ("c", "a")), ("strife", ("b", "d")),
            ("parted", ("a", "b")), ("parted", ("b", "a")),
        ]
        for reply in right:
            self.gives(True, is_answer, FOUR, start, goal, reply)
        self.gives(False, is_answer, FOUR, start, goal, ("history", (("c", "d"),)))

    def test_unknown_words(self):
        row = (("f", "a"), ("b", "c"))
        for word in ("", "History", "histories", "history ", "part", "none", "f"):
            self.gives(False, is_answer, SIX, START, END, (word, row))
            self.gives(False, is_answer, SIX, END, START, (word, ("f", "a")))
            self.gives(False, is_answer, SIX, START, START, (word, ()))

    def test_words_for_the_things_of_others(self):
        things = [(), (("f", "a"), ("b", "c")), ("f", "a"), ("f", "a", "e", "b"), ("f", "c")]
        for word, thing in itertools.product(("crossing", "strife", "parted"), things):
            self.gives(False, is_answer, SIX, START, END, (word, thing))

    def test_every_paper_by_its_words(self):
        pond = Pond(["c", "a", "d", "b"], strifes=[("a", "b"), ("c", "d")])
        names = (*pond.names, "x")
        papers = [("strife", pair) for pair in itertools.product(names, repeat=2)]
        papers += [("parted", pair) for pair in itertools.product(names, repeat=2)]
        papers += [("crossing", lots) for lots in itertools.permutations(names, 4)]
        for start, goal in itertools.product(all_worlds(pond), all_partings(pond)):
            right = [paper for paper in papers if is_right(pond, start, goal, paper)]
            accepted = [paper for paper in papers if is_answer(pond, start, goal, paper)]
            self.assertEqual(accepted, right)
            world = is_uncrossed(pond, goal) and not has_strife(pond, goal)
            self.assertIs(right == [], world and lies_within(start, goal))

    def test_every_history_by_its_words(self):
        pond = Pond(["c", "a", "d", "b"], strifes=[("a", "b")])
        pairs = list(itertools.permutations(pond.names, 2))
        start = (("c",), ("a",), ("d",), ("b",))
        rows = [(), *itertools.product(pairs, repeat=1), *itertools.product(pairs, repeat=2)]
        for goal in all_partings(pond):
            world = is_uncrossed(pond, goal) and not has_strife(pond, goal)
            for row in rows:
                expected = world and is_history(pond, start, goal, row)
                self.assertIs(is_answer(pond, start, goal, ("history", row)), expected)

    def test_goals_raise_no_error_of_worlds(self):
        for parting, kind, _ in BAD_WORLDS:
            if kind in (Crossing, AtStrife):
                self.gives(False, is_answer, SIX, START, parting, ("odd", ()))
                self.assertIn(answer(SIX, START, parting)[0], ("crossing", "strife"))


if __name__ == "__main__":
    unittest.main()
