"""ponds.py: points 7, 9 and 10, and sub_pond."""

import itertools
import unittest

from hedgejoin.errors import BadName, BadSize, RepeatedName, SameLot, UnknownLot
from hedgejoin.ponds import Pond, sub_pond
from tests.helpers import PromiseCase

TEN = ["j", "i", "h", "g", "f", "e", "d", "c", "b", "a"]


def pond_of_five():
    return Pond(["c", "a", "e", "b", "d"], strifes=[("b", "c"), ["a", "d"], ("c", "a")])


class TestMaking(PromiseCase):
    def test_names_and_strifes(self):
        pond = pond_of_five()
        self.gives(("c", "a", "e", "b", "d"), getattr, pond, "names")
        self.gives((("c", "a"), ("c", "b"), ("a", "d")), getattr, pond, "strifes")
        self.gives((), getattr, Pond(["a", "b"]), "strifes")
        self.gives((), getattr, Pond(("a", "b"), strifes=[]), "strifes")

    def test_one_and_ten_lots(self):
        self.gives(("abcdefgh",), getattr, Pond(["abcdefgh"]), "names")
        self.gives(tuple(TEN), getattr, Pond(TEN), "names")
        self.gives(tuple(TEN), getattr, Pond(names=tuple(TEN)), "names")

    def test_all_strifes_in_pair_order_each_once(self):
        pairs = list(itertools.combinations(TEN, 2))
        turned = [(y, x) for x, y in pairs]
        pond = Pond(TEN, strifes=turned[::-1] + pairs)
        self.gives(tuple(pairs), getattr, pond, "strifes")

    def test_repeated_strifes_count_once(self):
        pond = Pond(["b", "a"], strifes=(("a", "b"), ("b", "a"), ["a", "b"]))
        self.gives((("b", "a"),), getattr, pond, "strifes")

    def test_an_empty_or_too_long_row_of_names(self):
        self.refuses(BadSize, {"size": 0}, Pond, [])
        self.refuses(BadSize, {"size": 0}, Pond, ())
        self.refuses(BadSize, {"size": 11}, Pond, [*TEN, "k"])
        self.refuses(BadSize, {"size": 11}, Pond, ["a"] * 11)
        self.refuses(BadSize, {"size": 200}, Pond, ("A",) * 200)

    def test_size_comes_before_all_else(self):
        self.refuses(BadSize, {"size": 11}, Pond, ["A", *TEN], strifes=[("x", "x")])
        self.refuses(BadSize, {"size": 0}, Pond, [], strifes=[("x", "y")])

    def test_bad_names(self):
        self.refuses(BadName, {"name": "abcdefghi"}, Pond, ["a", "abcdefghi"])
        self.refuses(BadName, {"name": ""}, Pond, [""])
        self.refuses(BadName, {"name": "B"}, Pond, ["a", "B", "B", "a"])
        self.refuses(BadName, {"name": "B"}, Pond, ["B", "B"])

    def test_repeated_names(self):
        self.refuses(RepeatedName, {"name": "a"}, Pond, ["a", "b", "a"])
        self.refuses(RepeatedName, {"name": "b"}, Pond, ["a", "b", "b", "a"])

    def test_faults_of_names_go_name_by_name(self):
        self.refuses(RepeatedName, {"name": "a"}, Pond, ["a", "a", "B"])
        self.refuses(BadName, {"name": "B"}, Pond, ["a", "B", "a"])

    def test_names_come_before_strifes(self):
        self.refuses(BadName, {"name": "B"}, Pond, ["a", "B"], strifes=[("x", "a")])
        self.refuses(RepeatedName, {"name": "a"}, Pond, ["a", "a"], strifes=[("a", "a")])

    def test_faults_of_strifes(self):
        names = ["a", "b", "c"]
        self.refuses(UnknownLot, {"name": "x"}, Pond, names, strifes=[("x", "a")])
        self.refuses(UnknownLot, {"name": "x"}, Pond, names, strifes=[["a", "x"]])
        self.refuses(UnknownLot, {"name": "x"}, Pond, names, strifes=[("x", "y")])
        self.refuses(UnknownLot, {"name": "x"}, Pond, names, strifes=[("x", "x")])
        self.refuses(SameLot, {"name": "b"}, Pond, names, strifes=[("a", "b"), ("b", "b")])
        self.refuses(SameLot, {"name": "b"}, Pond, names, strifes=[("b", "b"), ("x", "a")])
        self.refuses(UnknownLot, {"name": "x"}, Pond, names, strifes=[("a", "x"), ("b", "b")])
        self.refuses(UnknownLot, {"name": ""}, Pond, names, strifes=[("a", "")])

    def test_no_argument_is_kept_that_the_caller_can_modify(self):
        names = ["a", "b", "c"]
        strifes = [["a", "b"]]
        pond = Pond(names, strifes=strifes)
        names.append("d")
        names[0] = "z"
        strifes[0][1] = "c"
        strifes.append(["b", "c"])
        self.gives(("a", "b", "c"), getattr, pond, "names")
        self.gives((("a", "b"),), getattr, pond, "strifes")
        self.gives(0, pond.position, "a")
        self.gives(["a", "b", "c"], list, pond)


class TestAsking(PromiseCase):
    def test_length_and_iteration(self):
        pond = pond_of_five()
        self.gives(5, len, pond)
        self.gives(1, len, Pond(["a"]))
        self.gives(10, len, Pond(TEN))
        self.assertEqual(list(pond), ["c", "a", "e", "b", "d"])
        self.assertEqual([(x, y) for x in pond for y in pond][5:7], [("a", "c"), ("a", "a")])
        self.assertIs("e" in pond, True)
        self.assertIs("x" in pond, False)

    def test_position(self):
        pond = pond_of_five()
        for at, name in enumerate(["c", "a", "e", "b", "d"]):
            self.gives(at, pond.position, name)
        self.gives(3, pond.position, name="b")
        self.refuses(UnknownLot, {"name": "x"}, pond.position, "x")
        self.refuses(UnknownLot, {"name": ""}, pond.position, "")

    def test_follows(self):
        pond = pond_of_five()
        self.gives("a", pond.follows, "c")
        self.gives("c", pond.follows, "d")
        self.gives("d", pond.follows, "c", by=-1)
        self.gives("a", pond.follows, "a", by=0)
        self.gives("a", pond.follows, "a", by=5)
        self.gives("b", pond.follows, "a", by=-998)
        self.gives("a", pond.follows, "a", by=1000)
        self.gives("a", pond.follows, "a", by=-1000)
        self.gives("b", pond.follows, name="e", by=6)
        self.gives("a", Pond(["a"]).follows, "a", by=3)
        self.refuses(UnknownLot, {"name": "x"}, pond.follows, "x", by=2)

    def test_pair_of(self):
        pond = pond_of_five()
        self.gives(("c", "a"), pond.pair_of, "a", "c")
        self.gives(("c", "a"), pond.pair_of, "c", "a")
        self.gives(("e", "d"), pond.pair_of, y="e", x="d")
        for method in (pond.pair_of, pond.with_strife, pond.without_strife):
            self.refuses(SameLot, {"name": "e"}, method, "e", "e")
            self.refuses(UnknownLot, {"name": "x"}, method, "x", "y")
            self.refuses(UnknownLot, {"name": "y"}, method, "a", "y")
            self.refuses(UnknownLot, {"name": "x"}, method, "x", "x")

    def test_at_strife(self):
        pond = pond_of_five()
        at_strife = {("c", "a"), ("c", "b"), ("a", "d")}
        for x, y in itertools.product(pond.names, repeat=2):
            self.gives((x, y) in at_strife or (y, x) in at_strife, pond.at_strife, x, y)
        self.gives(True, pond.at_strife, y="c", x="b")
        self.refuses(UnknownLot, {"name": "x"}, pond.at_strife, "x", "y")
        self.refuses(UnknownLot, {"name": "y"}, pond.at_strife, "a", "y")
        self.refuses(UnknownLot, {"name": "x"}, pond.at_strife, "x", "x")

    def test_same_as(self):
        pond = pond_of_five()
        self.gives(True, pond.same_as, pond)
        self.gives(True, pond.same_as, other=pond_of_five())
        self.gives(False, pond.same_as, pond.bare())
        self.gives(False, Pond(["a", "b"]).same_as, Pond(["b", "a"]))
        self.gives(False, Pond(["a", "b"]).same_as, Pond(["a", "b", "c"]))
        self.gives(True, Pond(["a", "b"]).same_as, Pond(("a", "b")))
        one = Pond(["a", "b", "c"], strifes=[("a", "b")])
        two = Pond(["a", "b", "c"], strifes=[("a", "c")])
        self.gives(False, one.same_as, two)


class TestNewPonds(PromiseCase):
    def test_bare(self):
        pond = pond_of_five()
        self.gives(Pond(["c", "a", "e", "b", "d"]), pond.bare)
        self.gives(Pond(["a"]), Pond(["a"]).bare)

    def test_with_strife(self):
        pond = pond_of_five()
        more = Pond(pond.names, strifes=[("c", "a"), ("c", "b"), ("a", "e"), ("a", "d")])
        self.gives(more, pond.with_strife, "e", "a")
        self.gives(more, pond.with_strife, x="a", y="e")
        self.gives(pond_of_five(), pond.with_strife, "a", "c")

    def test_without_strife(self):
        pond = pond_of_five()
        less = Pond(pond.names, strifes=[("c", "a"), ("a", "d")])
        self.gives(less, pond.without_strife, "b", "c")
        self.gives(less, pond.without_strife, y="b", x="c")
        self.gives(pond_of_five(), pond.without_strife, "e", "d")
        self.gives(Pond(["a", "b"]), Pond(["a", "b"], strifes=[("a", "b")]).without_strife, "b", "a")

    def test_sub_pond(self):
        pond = pond_of_five()
        part = Pond(["d", "c", "a"], strifes=[("d", "a"), ("c", "a")])
        self.gives(part, sub_pond, pond, ["d", "c", "a"])
        self.gives(part, sub_pond, pond=pond, lots=("d", "c", "a"))
        self.gives(Pond(["b"]), sub_pond, pond, ["b"])
        self.gives(pond_of_five(), sub_pond, pond, ["c", "a", "e", "b", "d"])
        self.gives(Pond(["b", "c"], strifes=[("b", "c")]), sub_pond, pond, ["b", "c"])
        self.gives(Pond(["e", "b"]), sub_pond, pond, ["e", "b"])

    def test_faults_of_sub_pond(self):
        pond = pond_of_five()
        self.refuses(BadSize, {"size": 0}, sub_pond, pond, [])
        self.refuses(BadSize, {"size": 0}, sub_pond, pond, ())
        self.refuses(UnknownLot, {"name": "x"}, sub_pond, pond, ["a", "x", "a"])
        self.refuses(UnknownLot, {"name": "x"}, sub_pond, pond, ["x", "x"])
        self.refuses(RepeatedName, {"name": "a"}, sub_pond, pond, ["a", "a", "x"])
        self.refuses(RepeatedName, {"name": "a"}, sub_pond, pond, ["c", "a"] + ["a"] * 198)

    def test_sub_pond_keeps_no_row(self):
        lots = ["a", "b"]
        part = sub_pond(pond_of_five(), lots)
        lots.append("c")
        self.gives(("a", "b"), getattr, part, "names")


if __name__ == "__main__":
    unittest.main()
