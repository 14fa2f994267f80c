"""partings.py: points 11 to 15."""

import unittest

from hedgejoin.errors import (
    AtStrife, BadParting, BadText, Crossing, RepeatedName, UnknownLot,
)
from hedgejoin.partings import (
    check_parting, check_world, code, first_crossing, first_strife, format_parting,
    from_code, is_world, one_world, parse_parting, parting_of, single_world, world_of,
)
from hedgejoin.ponds import Pond
from tests.helpers import (
    HUGE, PromiseCase, all_partings, code_of, fours_in_order, has_strife, is_together,
    is_uncrossed, small_ponds,
)

TEN = ["j", "i", "h", "g", "f", "e", "d", "c", "b", "a"]
FIVE = Pond(["c", "a", "e", "b", "d"])
AT_STRIFE = Pond(["c", "a", "e", "b", "d"], strifes=[("c", "b"), ("a", "d"), ("e", "b")])

# Each is nearly a parting of FIVE and breaks point 11 in one way.
NO_PARTINGS = [
    (),
    ((),),
    (("c", "a", "e", "b"),),
    (("c", "a", "e", "b", "d"), ()),
    ((), ("c", "a", "e", "b", "d")),
    (("c", "a"), (), ("e", "b", "d")),
    (("c", "a"), ("e", "b", "d", "x")),
    (("c", "a"), ("e", "b", "d"), ("x",)),
    (("c", "a"), ("e", "b", "x")),
    (("c", "a"), ("e", "b", "d", "c")),
    (("c", "a"), ("e", "b", "d"), ("c",)),
    (("c", "a"), ("c", "a"), ("e", "b", "d")),
    (("c", "a", "a"), ("e", "b", "d")),
    (("a", "c"), ("e", "b", "d")),
    (("c", "a"), ("b", "e", "d")),
    (("e", "b", "d"), ("c", "a")),
    (("c",), ("e",), ("a",), ("b",), ("d",)),
    (("c", "a"), ("d",), ("e", "b")),
    (("c", "a"), ("e", "b", "")),
    (("c", "a"), ("e", "b", "D")),
]


class TestPartingOf(PromiseCase):
    def test_groups_in_any_order(self):
        expected = (("c", "e", "d"), ("a",), ("b",))
        self.gives(expected, parting_of, FIVE, [["d", "c", "e"]])
        self.gives(expected, parting_of, FIVE, (("b",), ["e", "d", "c"]))
        self.gives(expected, parting_of, FIVE, [[], ("e", "c", "d"), (), ["a"], ["b"], []])
        self.gives((("c", "b"), ("a", "d"), ("e",)), parting_of, FIVE, [["d", "a"], ["b", "c"]])
        self.gives((("c", "b"), ("a", "d"), ("e",)), parting_of, AT_STRIFE, [["a", "d"], ["c", "b"]])

    def test_left_out_lots_are_single(self):
        self.gives((("c",), ("a",), ("e",), ("b",), ("d",)), parting_of, FIVE, [])
        self.gives((("c",), ("a",), ("e",), ("b",), ("d",)), parting_of, FIVE, ([],))
        self.gives((("a",),), parting_of, Pond(["a"]), groups=[])
        self.gives((tuple(TEN),), parting_of, pond=Pond(TEN), groups=[TEN[::-1]])

    def test_faults(self):
        self.refuses(UnknownLot, {"name": "x"}, parting_of, FIVE, [["a"], ["x", "a"]])
        self.refuses(UnknownLot, {"name": "x"}, parting_of, FIVE, [["x", "x"]])
        self.refuses(RepeatedName, {"name": "a"}, parting_of, FIVE, [["a", "a"]])
        self.refuses(RepeatedName, {"name": "a"}, parting_of, FIVE, [["a", "b"], [], ["c", "a"]])
        self.refuses(RepeatedName, {"name": "a"}, parting_of, FIVE, [["a", "b", "a", "x"]])
        self.refuses(RepeatedName, {"name": "b"}, parting_of, FIVE, [["a", "b"], ["b", "a"], ["x"]])
        self.refuses(UnknownLot, {"name": ""}, parting_of, FIVE, [["a", "", "a"]])

    def test_every_parting_comes_of_its_fields_backwards(self):
        for pond in small_ponds(5):
            for parting in all_partings(pond):
                groups = [list(field[::-1]) for field in parting[::-1]]
                self.assertEqual(parting_of(pond, groups), parting)


class TestCheckParting(PromiseCase):
    def test_partings(self):
        for pond in small_ponds(5):
            for parting in all_partings(pond):
                self.gives(None, check_parting, pond, parting)
        self.gives(None, check_parting, pond=Pond(TEN), parting=(tuple(TEN),))

    def test_no_partings(self):
        for parting in NO_PARTINGS:
            self.refuses(BadParting, {}, check_parting, FIVE, parting)
        self.refuses(BadParting, {}, check_parting, Pond(["a"]), ())
        self.refuses(BadParting, {}, check_parting, Pond(["a"]), (("b",),))
        self.refuses(BadParting, {}, check_parting, Pond(["a"]), (("a",), ("a",)))

    def test_all_that_take_a_parting(self):
        entries = [first_crossing, first_strife, check_world, format_parting, code]
        for entry in entries:
            for parting in NO_PARTINGS:
                self.refuses(BadParting, {}, entry, AT_STRIFE, parting)

    def test_bad_parting_comes_before_crossing_and_strife(self):
        crossing = (("c", "e"), ("a", "b"))
        for entry in (check_world, first_crossing, first_strife):
            self.refuses(BadParting, {}, entry, AT_STRIFE, crossing)
            self.refuses(BadParting, {}, entry, AT_STRIFE, (("b", "c"), ("a",), ("e",), ("d",)))


class TestFirstCrossing(PromiseCase):
    def test_one_and_several_crossings(self):
        self.gives(None, first_crossing, FIVE, (("c", "a", "e", "b", "d"),))
        self.gives(None, first_crossing, FIVE, (("c", "d"), ("a", "b"), ("e",)))
        self.gives(
            ("c", "a", "e", "b"), first_crossing, FIVE, (("c", "e", "d"), ("a", "b"))
        )
        self.gives(
            ("a", "e", "b", "d"), first_crossing, FIVE, (("c",), ("a", "b"), ("e", "d"))
        )
        self.gives(("c", "a", "e", "d"), first_crossing, FIVE, (("c", "e", "b"), ("a", "d")))
        six = Pond(["f", "a", "e", "b", "d", "c"])
        self.gives(
            ("f", "a", "b", "d"), first_crossing, pond=six, parting=(("f", "b"), ("a", "d"), ("e", "c"))
        )

    def test_by_its_words(self):
        for pond in small_ponds(6):
            for parting in all_partings(pond):
                found = [
                    (a, b, c, d)
                    for a, b, c, d in fours_in_order(pond)
                    if is_together(parting, a, c) and is_together(parting, b, d)
                    and not is_together(parting, a, b)
                ]
                self.assertEqual(first_crossing(pond, parting), found[0] if found else None)


class TestStrifes(PromiseCase):
    def test_first_strife(self):
        self.gives(None, first_strife, AT_STRIFE, (("c", "a", "e"), ("b", "d")))
        self.gives(("c", "b"), first_strife, AT_STRIFE, (("c", "a", "e", "b", "d"),))
        self.gives(("c", "b"), first_strife, AT_STRIFE, (("c", "b"), ("a", "d"), ("e",)))
        self.gives(("a", "d"), first_strife, AT_STRIFE, (("c",), ("a", "d"), ("e", "b")))
        self.gives(("e", "b"), first_strife, AT_STRIFE, (("c",), ("a",), ("e", "b"), ("d",)))
        self.gives(None, first_strife, pond=FIVE, parting=(("c", "a", "e", "b", "d"),))

    def test_pair_order_counts_and_not_the_fields(self):
        pond = Pond(["d", "c", "b", "a"], strifes=[("a", "d"), ("c", "b")])
        self.gives(("d", "a"), first_strife, pond, (("d", "a"), ("c", "b")))
        self.gives(("c", "b"), first_strife, pond, (("d",), ("c", "b"), ("a",)))

    def test_check_world(self):
        self.gives(None, check_world, AT_STRIFE, (("c", "a", "e"), ("b", "d")))
        self.gives(None, check_world, pond=FIVE, parting=(("c", "a", "e", "b", "d"),))
        self.refuses(
            Crossing, {"lots": ("c", "a", "b", "d")},
            check_world, AT_STRIFE, (("c", "b"), ("a", "d"), ("e",)),
        )
        self.refuses(
            AtStrife, {"pair": ("c", "b")}, check_world, AT_STRIFE, (("c", "a", "e", "b", "d"),)
        )
        self.refuses(
            AtStrife, {"pair": ("e", "b")}, check_world, AT_STRIFE, (("c", "d"), ("a",), ("e", "b"))
        )

    def test_is_world(self):
        self.gives(True, is_world, AT_STRIFE, (("c", "a", "e"), ("b", "d")))
        self.gives(True, is_world, pond=FIVE, parting=(("c", "a", "e", "b", "d"),))
        self.gives(False, is_world, AT_STRIFE, (("c", "b"), ("a", "d"), ("e",)))
        self.gives(False, is_world, FIVE, (("c", "b"), ("a", "d"), ("e",)))
        self.gives(False, is_world, AT_STRIFE, (("c", "a", "e", "b", "d"),))
        for parting in NO_PARTINGS:
            self.gives(False, is_world, FIVE, parting)

    def test_is_world_by_its_words(self):
        pond = Pond(["e", "d", "c", "b", "a"], strifes=[("a", "e"), ("d", "b")])
        for parting in all_partings(pond):
            expected = is_uncrossed(pond, parting) and not has_strife(pond, parting)
            self.assertIs(is_world(pond, parting), expected)
            self.assertIs(is_world(pond.bare(), parting), is_uncrossed(pond, parting))


class TestWorlds(PromiseCase):
    def test_world_of(self):
        self.gives((("c", "a", "e"), ("b", "d")), world_of, AT_STRIFE, [["d", "b"], ["e", "a", "c"]])
        self.gives((("c",), ("a",), ("e",), ("b",), ("d",)), world_of, pond=AT_STRIFE, groups=[])
        self.refuses(UnknownLot, {"name": "x"}, world_of, AT_STRIFE, [["c", "b"], ["x"]])
        self.refuses(RepeatedName, {"name": "c"}, world_of, AT_STRIFE, [["c", "b"], ["c"]])
        self.refuses(
            Crossing, {"lots": ("c", "a", "b", "d")}, world_of, AT_STRIFE, [["a", "d"], ["c", "b"]]
        )
        self.refuses(AtStrife, {"pair": ("c", "b")}, world_of, AT_STRIFE, [["e", "b", "c"]])
        self.refuses(AtStrife, {"pair": ("a", "d")}, world_of, AT_STRIFE, [["b", "e"], ["d", "a"]])

    def test_single_world(self):
        self.gives((("c",), ("a",), ("e",), ("b",), ("d",)), single_world, AT_STRIFE)
        self.gives((("a",),), single_world, pond=Pond(["a"]))
        self.gives(tuple([(name,) for name in TEN]), single_world, Pond(TEN))

    def test_one_world(self):
        self.gives((("c", "a", "e", "b", "d"),), one_world, FIVE)
        self.gives((("a",),), one_world, pond=Pond(["a"]))
        self.refuses(AtStrife, {"pair": ("c", "b")}, one_world, AT_STRIFE)
        self.refuses(AtStrife, {"pair": ("b", "a")}, one_world, Pond(["b", "a"], strifes=[("a", "b")]))


class TestTexts(PromiseCase):
    def test_format(self):
        self.gives("c b / a d / e", format_parting, FIVE, (("c", "b"), ("a", "d"), ("e",)))
        self.gives("c a e b d", format_parting, AT_STRIFE, (("c", "a", "e", "b", "d"),))
        self.gives("a", format_parting, pond=Pond(["a"]), parting=(("a",),))

    def test_parse(self):
        expected = (("c", "b"), ("a", "d"), ("e",))
        self.gives(expected, parse_parting, FIVE, "c b / a d / e")
        self.gives(expected, parse_parting, FIVE, "d a / e / b c")
        self.gives(expected, parse_parting, AT_STRIFE, "b c / d a")
        self.gives((("c",), ("a",), ("e",), ("b",), ("d",)), parse_parting, FIVE, "e")
        self.gives((("a",),), parse_parting, pond=Pond(["a"]), text="a")

    def test_every_parting_is_read_as_it_is_written(self):
        for pond in small_ponds(5):
            for parting in all_partings(pond):
                self.assertEqual(parse_parting(pond, format_parting(pond, parting)), parting)

    def test_bad_texts(self):
        places = {
            "": 0,
            " ": 0,
            "/": 0,
            "/ a": 0,
            " a": 0,
            "a ": 1,
            "a /": 1,
            "a / ": 2,
            "a  b": 1,
            "a   b": 1,
            "a / / b": 2,
            "a / b / / c": 4,
            "a /  b": 2,
            "a  / b": 1,
            "a / b /": 3,
            "a b c d /": 4,
            "a/b": 0,
            "a B": 1,
            "a // b": 1,
            "a b / c 5 /": 4,
            "a abcdefghi /": 1,
            "/ /": 0,
            "a / /": 2,
        }
        for text, place in places.items():
            self.refuses(BadText, {"place": place}, parse_parting, FIVE, text)

    def test_bad_text_comes_before_all_other_faults(self):
        self.refuses(BadText, {"place": 3}, parse_parting, FIVE, "x a a ")
        self.refuses(BadText, {"place": 4}, parse_parting, FIVE, "x x / x /")
        self.refuses(UnknownLot, {"name": "x"}, parse_parting, FIVE, "c / x a a")
        self.refuses(RepeatedName, {"name": "a"}, parse_parting, FIVE, "c / a a x")
        self.refuses(RepeatedName, {"name": "a"}, parse_parting, FIVE, "a / b a")
        self.refuses(UnknownLot, {"name": "abcdefgh"}, parse_parting, FIVE, "a abcdefgh")


class TestCodes(PromiseCase):
    def test_code(self):
        self.gives((0, 1, 2, 0, 1), code, FIVE, (("c", "b"), ("a", "d"), ("e",)))
        self.gives((0, 0, 0, 0, 0), code, AT_STRIFE, (("c", "a", "e", "b", "d"),))
        self.gives((0,), code, pond=Pond(["a"]), parting=(("a",),))
        singles = tuple([(name,) for name in TEN])
        self.gives((0, 1, 2, 3, 4, 5, 6, 7, 8, 9), code, Pond(TEN), singles)

    def test_from_code(self):
        self.gives((("c", "b"), ("a", "d"), ("e",)), from_code, FIVE, [0, 1, 2, 0, 1])
        self.gives((("c", "b"), ("a", "d"), ("e",)), from_code, AT_STRIFE, (0, 1, 2, 0, 1))
        self.gives((("a",),), from_code, pond=Pond(["a"]), numbers=[0])
        singles = tuple([(name,) for name in TEN])
        self.gives(singles, from_code, Pond(TEN), [0, 1, 2, 3, 4, 5, 6, 7, 8, 9])

    def test_no_codes(self):
        rows = [
            [], [0], [0, 0, 0, 0], [0, 0, 0, 0, 0, 0], [1, 1, 1, 1, 1], [0, 2, 1, 1, 1],
            [0, 1, 1, 3, 2], [0, 0, 0, 0, -1], [-1, 0, 0, 0, 0], [0, 0, 0, 0, 2],
            [1, 0, 1, 0, 1], [0, 1, 2, 3, 5], [0, 0, 0, 0, HUGE], [-HUGE] * 5, [HUGE] * 5,
            [5, 6, 7, 8, 9], [0, 1, 2, 3, 4, 5], [0] * 200,
        ]
        for row in rows:
            self.refuses(BadParting, {}, from_code, FIVE, row)
            self.refuses(BadParting, {}, from_code, FIVE, tuple(row))

    def test_codes_of_all_partings(self):
        for pond in small_ponds(5):
            partings = all_partings(pond)
            codes = [code(pond, parting) for parting in partings]
            self.assertEqual(codes, [code_of(pond, parting) for parting in partings])
            self.assertEqual(len(set(codes)), len(partings))
            self.assertEqual([from_code(pond, row) for row in codes], partings)


if __name__ == "__main__":
    unittest.main()
