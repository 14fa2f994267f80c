"""The facts that the document states between entries, over all worlds of small ponds."""

import itertools
import unittest

from hedgejoin.deeds import crossed_fields, deeds, join, pasts, refusal
from hedgejoin.errors import AtStrife, CrossedField, SameField
from hedgejoin.fields import (
    chain, cut, from_hedges, groups_cross, hedges, next_in_field, within,
)
from hedgejoin.mirror import fields_at, mirror, next_gate, path_of, paths_at, unmirror
from hedgejoin.moves import Likeness, likeness_of, move, move_pond
from hedgejoin.partings import check_world, is_world, one_world, single_world, world_of
from hedgejoin.ponds import Pond, sub_pond
from hedgejoin.rows import exchange, is_history, plain_row, replay, same_history, trace, ways_at
from tests.helpers import (
    WITH_STRIFES, all_cases, all_partings, all_worlds, is_uncrossed, pairs_in_order, shown,
    small_ponds, spoil, uncrossed_partings,
)

def way_through(pond, world, start, end):
    """The nodes of the tree from one field to another: fields and paths by turns."""
    ways = [[start]]
    while ways:
        way = ways.pop()
        if way[-1] == end:
            return way
        for path in paths_at(pond, world, way[-1][0]):
            if path in way[1::2]:
                continue
            for field in fields_at(pond, world, path[0]):
                if field not in way[::2]:
                    ways.append([*way, path, field])
    return None


class TestMirrorFacts(unittest.TestCase):
    def test_mirror_taken_twice_moves_each_lot_one_place_back(self):
        for pond, world in all_cases(6):
            bare = pond.bare()
            twice = mirror(bare, mirror(bare, world))
            self.assertEqual(twice, move(pond, world, Likeness(len(pond), shift=-1)))

    def test_unmirror_of_mirror(self):
        for pond, world in all_cases(6):
            self.assertEqual(unmirror(pond, mirror(pond, world)), world)

    def test_mirror_of_unmirror(self):
        for pond in small_ponds(6):
            for paths in uncrossed_partings(pond):
                self.assertEqual(mirror(pond, unmirror(pond, paths)), paths)

    def test_unmirror_raises_exactly_if_the_world_has_a_strife(self):
        for pond in WITH_STRIFES:
            for paths in uncrossed_partings(pond):
                world = unmirror(pond.bare(), paths)
                if is_world(pond, world):
                    self.assertEqual(unmirror(pond, paths), world)
                else:
                    with self.assertRaises(AtStrife):
                        unmirror(pond, paths)

    def test_number_of_fields_plus_number_of_paths(self):
        for pond, world in all_cases(6):
            self.assertEqual(len(world) + len(mirror(pond, world)), len(pond) + 1)

    def test_paths_are_uncrossed_partings_and_each_is_met_once(self):
        for pond in small_ponds(6):
            worlds = uncrossed_partings(pond)
            found = {mirror(pond, world) for world in worlds}
            self.assertEqual(found, set(worlds))

    def test_mirror_turns_within_around(self):
        for pond in small_ponds(5):
            for lower, upper in itertools.product(uncrossed_partings(pond), repeat=2):
                turned = within(pond, mirror(pond, upper), mirror(pond, lower))
                self.assertIs(within(pond, lower, upper), turned)

    def test_next_gate_is_the_lot_before_the_following_one(self):
        for pond, world in all_cases(5):
            for gate in pond.names:
                before = next_in_field(pond, world, pond.follows(gate), back=True)
                self.assertEqual(next_gate(pond, world, gate), before)


class TestTreeFacts(unittest.TestCase):
    def test_a_path_meets_as_many_fields_as_it_has_gates(self):
        for pond, world in all_cases(6):
            for path in mirror(pond, world):
                self.assertEqual(len(fields_at(pond, world, path[0])), len(path))
            for field in world:
                self.assertEqual(len(paths_at(pond, world, field[0])), len(field))

    def test_two_fields_meet_at_most_one_common_path_and_a_way_joins_them(self):
        for pond, world in all_cases(5):
            for one, two in itertools.combinations(world, 2):
                others = paths_at(pond, world, two[0])
                common = [path for path in paths_at(pond, world, one[0]) if path in others]
                self.assertLessEqual(len(common), 1)
                self.assertIsNotNone(way_through(pond, world, one, two))

    def test_crossed_fields_are_the_inner_fields_of_the_way(self):
        for pond, world in all_cases(5):
            for one, two in itertools.combinations(world, 2):
                inner = way_through(pond, world, one, two)[2:-1:2]
                expected = [field for field in world if field in inner]
                self.assertEqual(crossed_fields(pond, world, one[-1], two[0]), expected)
                joined = from_hedges(pond, [*hedges(pond, world), (one[0], two[0])])
                self.assertIs(is_uncrossed(pond, joined), len(expected) == 0)

    def test_a_deed_parts_one_path_into_two(self):
        for pond, world in all_cases(5):
            for x, y in deeds(pond, world):
                before = mirror(pond, world)
                after = mirror(pond, join(pond, world, x, y))
                gone = [path for path in before if path not in after]
                new = [path for path in after if path not in before]
                self.assertEqual((len(gone), len(new)), (1, 2))
                self.assertEqual(sorted(gone[0]), sorted(new[0] + new[1]))


class TestFieldFacts(unittest.TestCase):
    def test_from_hedges_of_hedges(self):
        for pond in small_ponds(5):
            for parting in all_partings(pond):
                self.assertEqual(from_hedges(pond, hedges(pond, parting)), parting)

    def test_no_two_hedges_of_an_uncrossed_parting_cross(self):
        for pond, world in all_cases(6):
            for one, two in itertools.combinations(hedges(pond, world), 2):
                self.assertIsNone(groups_cross(pond, one, two))

    def test_cut_of_worlds_is_a_world_and_both_lie_within_the_chain(self):
        for pond in WITH_STRIFES:
            for one, two in itertools.product(all_worlds(pond), repeat=2):
                self.assertTrue(is_world(pond, cut(pond, one, two)))
                self.assertTrue(within(pond, one, chain(pond, one, two)))
                self.assertTrue(within(pond, two, chain(pond, one, two)))
                self.assertTrue(within(pond, cut(pond, one, two), one))


class TestDeedFacts(unittest.TestCase):
    def test_join_against_refusal_and_crossed_fields(self):
        for pond, world in all_cases(5):
            for x, y in itertools.product(pond.names, repeat=2):
                cause = refusal(pond, world, x, y)
                if cause is None:
                    after = join(pond, world, x, y)
                    check_world(pond, after)
                    self.assertEqual(len(after), len(world) - 1)
                    self.assertEqual(crossed_fields(pond, world, x, y), [])
                    continue
                kinds = {"same": SameField, "crossed": CrossedField, "strife": AtStrife}
                with self.assertRaises(kinds[cause[0]]):
                    join(pond, world, x, y)
                if cause[0] == "crossed":
                    self.assertEqual(crossed_fields(pond, world, x, y)[0], cause[1])
                elif cause[0] == "strife":
                    self.assertEqual(crossed_fields(pond, world, x, y), [])

    def test_pasts_against_join(self):
        for pond in [*small_ponds(5), *WITH_STRIFES]:
            before = {world: set() for world in all_worlds(pond)}
            for world in before:
                for x, y in deeds(pond, world):
                    before[join(pond, world, x, y)].add(world)
            for world, found in before.items():
                self.assertEqual(set(pasts(pond, world)), found)
                self.assertEqual(len(pasts(pond, world)), len(found))

    def test_a_deed_moves_with_the_pond(self):
        pond = WITH_STRIFES[2]
        for world in all_worlds(pond):
            for shift, flipped in itertools.product(range(4), (False, True)):
                likeness = Likeness(4, shift=shift, flipped=flipped)
                moved = move_pond(pond, likeness)
                place = move(pond, world, likeness)
                self.assertEqual(len(deeds(pond, world)), len(deeds(moved, place)))


class TestRowFacts(unittest.TestCase):
    def test_rows_that_pass_the_same_worlds_have_equal_plain_rows(self):
        pond = Pond(["c", "a", "d", "b"], strifes=[("a", "d")])
        start = single_world(pond)
        pairs = [(x, y) for x, y in itertools.permutations(pond.names, 2)]
        rows = [
            row for row in itertools.product(pairs, repeat=2)
            if refusal(pond, start, *row[0]) is None
            and refusal(pond, join(pond, start, *row[0]), *row[1]) is None
        ]
        for one, two in itertools.product(rows, repeat=2):
            same = trace(pond, start, one) == trace(pond, start, two)
            self.assertIs(same_history(pond, start, one, two), same)
            self.assertIs(plain_row(pond, start, one) == plain_row(pond, start, two), same)

    def test_exchanges_keep_start_and_end_and_come_around(self):
        pond = Pond(["c", "a", "e", "b", "d"])
        start = single_world(pond)
        row = [("a", "b"), ("c", "d"), ("e", "b"), ("b", "d")]
        end = replay(pond, start, row)
        for at in range(3):
            ways = ways_at(pond, start, row, at)
            plain = plain_row(pond, start, row)
            met = []
            for by in range(len(ways)):
                changed = exchange(pond, start, row, at, by=by)
                self.assertTrue(is_history(pond, start, end, changed))
                self.assertEqual(changed[:at], plain[:at])
                self.assertEqual(changed[at + 2:], plain[at + 2:])
                met.append((changed[at], changed[at + 1]))
            self.assertEqual(sorted(met), sorted(ways))
            self.assertEqual(exchange(pond, start, row, at, by=len(ways)), plain)
            self.assertEqual(exchange(pond, start, row, at, by=-len(ways)), plain)


class TestKeptApart(unittest.TestCase):
    """What the caller does to a row or a list afterwards changes no later answer."""

    def test_rows_are_not_kept(self):
        pond = Pond(["a", "b", "c"])
        groups = [["a", "b"]]
        world = world_of(pond, groups)
        groups[0].append("c")
        self.assertEqual(world, (("a", "b"), ("c",)))
        deed = ["a", "b"]
        row = [deed, ["a", "c"]]
        plain = plain_row(pond, single_world(pond), row)
        deed[0] = "c"
        self.assertEqual(plain, [("a", "b"), ("a", "c")])
        key = [2, True]
        likeness = likeness_of(key, size=3)
        key[0] = 1
        self.assertEqual(likeness.key, (2, True))

    def test_causes_hold_tuples_where_lists_were_passed(self):
        pond = Pond(["a", "b", "c"], strifes=[["a", "b"]])
        with self.assertRaises(AtStrife) as caught:
            one_world(pond)
        self.assertEqual(shown(caught.exception.pair), shown(("a", "b")))
        self.assertEqual(shown(refusal(pond, single_world(pond), "b", "a")),
                         shown(("strife", ("a", "b"))))

    def test_spoiled_lists_change_no_later_answer(self):
        pond = Pond(["c", "a", "e", "b", "d"], strifes=[("a", "d")])
        before = shown(pond)
        world = world_of(pond, [["c", "e"]])
        for entry in (deeds, pasts, hedges):
            first = entry(pond, world)
            expected = shown(first)
            spoil(first)
            self.assertEqual(shown(entry(pond, world)), expected)
        self.assertEqual(shown(pond), before)
        self.assertEqual(shown(path_of(pond, world, "c")), shown(("c", "a")))

    def test_new_ponds_are_other_objects_each_time(self):
        pond = Pond(["a", "b"])
        same = Likeness(2)
        made = [pond.bare(), pond.bare(), sub_pond(pond, pond.names), move_pond(pond, same),
                move_pond(pond, same), pond.without_strife("a", "b"), pond]
        self.assertEqual(len({id(one) for one in made}), len(made))
        self.assertTrue(all(one.same_as(pond) for one in made))


class TestAllPairs(unittest.TestCase):
    def test_every_two_single_lots_can_be_joined_without_strife(self):
        pond = Pond(["j", "i", "h", "g", "f", "e", "d", "c", "b", "a"])
        self.assertEqual(deeds(pond, single_world(pond)), pairs_in_order(pond))


if __name__ == "__main__":
    unittest.main()
