"""orders.py: points 5, 15, 19, 22, 45, 46 and 47."""

import itertools
import random
import unittest

from hedgejoin.errors import BadText, OrderRefused, Stuck, TooMany
from hedgejoin.orders import (
    count_statements, depth_of, format_order, order_of, orders_part, outcome, parse_order,
    run_order,
)
from hedgejoin.ponds import Pond
from hedgejoin.rows import replay
from tests.helpers import (
    ALONE, ONLY, SINGLES, SIX, TEN, TEN_SINGLES, WHOLE, WITH_STRIFES, PromiseCase, all_worlds,
    by_code, deed_cause, is_together, joined, on_one_path, pairs_in_order, shown, small_ponds,
)

FIVE = Pond(["c", "a", "e", "b", "d"], strifes=[("c", "d"), ("a", "b")])
FIVE_SINGLES = (("c",), ("a",), ("e",), ("b",), ("d",))
WORLD = (("c",), ("a", "e"), ("b",), ("d",))
FOUR = Pond(["c", "a", "d", "b"], strifes=[("a", "b")])
FOUR_SINGLES = (("c",), ("a",), ("d",), ("b",))
SEVEN = Pond(TEN.names[:7])
SEVEN_SINGLES = TEN_SINGLES[:7]
EIGHT = Pond(TEN.names[:8])
TOGETHER = ("together", "a", "b")


class Wrong(Exception):
    """A text is no order; place is the number of its first faulty word."""

    def __init__(self, place):
        super().__init__(place)
        self.place = place


class PlainReader:
    """Point 46 as it stands, read from left to right."""

    def __init__(self, text):
        self.words = [] if text == "" else text.split(" ")
        self.at = 0

    def word(self, fits):
        if self.at == len(self.words) or not fits(self.words[self.at]):
            raise Wrong(self.at)
        self.at += 1
        return self.words[self.at - 1]

    def one_of(self, *words):
        return self.word(lambda word: word in words)

    def order(self, variables, ends):
        found = []
        while self.at < len(self.words) and self.words[self.at] not in ends:
            found.append(self.statement(variables))
        if self.at == len(self.words) and ends:
            raise Wrong(self.at)
        return tuple(found)

    def statement(self, variables):
        word = self.one_of("join", "clear", "if", "while", "until", "each")
        if word == "join":
            return (word, self.term(variables), self.term(variables))
        if word == "clear":
            return (word, self.term(variables))
        if word == "each":
            variable = self.word(lambda word: len(word) == 1 and "A" <= word <= "Z")
            return (word, variable, self.body([*variables, variable]))
        test = self.test(variables)
        if word == "while":
            return (word, test, self.body(variables))
        if word == "until":
            test = test[1] if test[0] == "not" else ("not", test)
            return ("while", test, self.body(variables))
        self.one_of("do")
        body = self.order(variables, ["else", "end"])
        other = self.order(variables, ["end"]) if self.one_of("else", "end") == "else" else None
        if other is not None:
            self.one_of("end")
        return (word, test, body, other or ())

    def body(self, variables):
        self.one_of("do")
        order = self.order(variables, ["end"])
        self.one_of("end")
        return order

    def test(self, variables):
        word = self.one_of("not", "together", "open")
        if word == "not":
            inner = self.one_of("together", "open")
            return ("not", (inner, self.term(variables), self.term(variables)))
        return (word, self.term(variables), self.term(variables))

    def term(self, variables):
        return self.word(lambda word: word in variables or is_name_by_words(word))


def is_name_by_words(word):
    """Point 6 as it stands."""
    small = "abcdefghijklmnopqrstuvwxyz"
    return 1 <= len(word) <= 8 and word[0] in small and all(sign in small + "0123456789" for sign in word)


def read_by_words(text):
    """The order, or the place of the fault, or the count and the limit of the one that is due."""
    try:
        order = PlainReader(text).order([], [])
    except Wrong as wrong:
        return ("bad", wrong.place)
    many, depth = counted(order), deepest(order)
    if many > 12:
        return ("many", many, 12)
    if depth > 3:
        return ("many", depth, 3)
    return ("order", order)


def bodies(statement):
    return statement[2:] if statement[0] in ("if", "while", "each") else ()


def counted(order):
    return sum(1 + sum(counted(body) for body in bodies(statement)) for statement in order)


def deepest(order):
    return max([1 + max(deepest(body) for body in bodies(one)) for one in order if bodies(one)], default=0)


class Halt(Exception):
    """A run ends with an error; told says with which one."""

    def __init__(self, *told):
        super().__init__(told)
        self.told = told


class PlainRun:
    """Point 47 as it stands."""

    def __init__(self, pond, world):
        self.pond = pond
        self.world = world
        self.deeds = []

    def order(self, order, place, held):
        for at, statement in enumerate(order):
            getattr(self, "do_" + statement[0])(statement, (*place, at), held)

    def deed(self, x, y, place):
        cause = deed_cause(self.pond, self.world, x, y)
        if cause is not None:
            raise Halt("refused", place, cause)
        self.deeds.append(tuple([field[0] for field in self.world if x in field or y in field]))
        self.world = joined(self.pond, self.world, x, y)

    def known(self, lots, place):
        for lot in lots:
            if lot not in self.pond.names:
                raise Halt("refused", place, ("unknown", lot))

    def do_join(self, statement, place, held):
        self.deed(*[held.get(term, term) for term in statement[1:]], place)

    def do_clear(self, statement, place, held):
        gate = held.get(statement[1], statement[1])
        self.known([gate], place)
        names = self.pond.names
        path = [
            lot for lot in names if lot == gate
            or on_one_path(self.pond, self.world, *sorted([lot, gate], key=names.index))
        ]
        fields = [field for field in self.world if any(lot in path for lot in field)]
        for field in fields[1:]:
            self.deed(fields[0][0], field[0], place)

    def holds(self, test, place, held):
        if test[0] == "not":
            return not self.holds(test[1], place, held)
        lots = [held.get(term, term) for term in test[1:]]
        self.known(lots, place)
        if test[0] == "together":
            return is_together(self.world, *lots)
        return deed_cause(self.pond, self.world, *lots) is None

    def do_if(self, statement, place, held):
        branch = 0 if self.holds(statement[1], place, held) else 1
        self.order(statement[2 + branch], (*place, branch), held)

    def do_while(self, statement, place, held):
        while self.holds(statement[1], place, held):
            before = list(self.deeds)
            self.order(statement[2], (*place, 0), held)
            if self.deeds == before:
                raise Halt("stuck", place)

    def do_each(self, statement, place, held):
        for field in list(self.world):
            self.order(statement[2], (*place, 0), {**held, statement[1]: field[0]})


def run_by_words(pond, world, order):
    """What a run comes to: the world and the deeds, or the error that ends it."""
    run = PlainRun(pond, world)
    try:
        run.order(order, (), {})
    except Halt as halt:
        return halt.told
    return ("world", run.world, run.deeds)


def random_term(rng, variables):
    return "x" if rng.random() < 0.02 else rng.choice([*"cadb", *variables, *variables, *variables])


def random_test(rng, variables):
    test = (rng.choice(["together", "open"]), random_term(rng, variables), random_term(rng, variables))
    return ("not", test) if rng.random() < 0.4 else test


def random_statement(rng, depth, variables):
    word = rng.choice(["join", "clear"] + ["if", "while", "each", "each", "open", "open"] * (depth > 0))
    if word == "open":
        deed = (random_term(rng, variables), random_term(rng, variables))
        guarded = ((word, *deed), (("join", *deed),))
        return rng.choice([("if", *guarded, ()), ("while", *guarded)])
    if word == "join":
        return (word, random_term(rng, variables), random_term(rng, variables))
    if word == "clear":
        return (word, random_term(rng, variables))
    if word == "each":
        variable = rng.choice("AB")
        return (word, variable, random_body(rng, depth - 1, [*variables, variable]))
    body = random_body(rng, depth - 1, variables)
    if word == "while":
        return (word, random_test(rng, variables), body)
    return (word, random_test(rng, variables), body, random_body(rng, depth - 1, variables))


def random_body(rng, depth, variables):
    return tuple([random_statement(rng, depth, variables) for _ in range(rng.choice([0, 1, 1, 2]))])


def some_orders(many, seed):
    """Orders that keep to point 45, always the same ones."""
    rng = random.Random(seed)
    found = [()]
    while len(found) < many:
        order = random_body(rng, 3, []) + random_body(rng, 3, [])
        if counted(order) <= 12:
            found.append(order)
    return found


class TestParse(PromiseCase):
    def reads(self, order, text):
        self.gives(order, parse_order, text)
        self.assertEqual(read_by_words(text), ("order", order))

    def rejects(self, place, text):
        self.refuses(BadText, {"place": place}, parse_order, text)
        self.assertEqual(read_by_words(text), ("bad", place))

    def test_statements(self):
        self.reads((("join", "a", "b"),), "join a b")
        self.reads((("clear", "a1"), ("join", "x", "x")), "clear a1 join x x")
        self.reads((("if", TOGETHER, (), ()),), "if together a b do end")
        self.reads((("if", ("open", "a", "b"), (("clear", "a"),), (("clear", "b"),)),),
                   "if open a b do clear a else clear b end")
        self.reads((("while", ("not", TOGETHER), (("join", "a", "b"),)),),
                   "while not together a b do join a b end")
        self.reads((("each", "Z", (("clear", "Z"),)),), "each Z do clear Z end")
        self.gives((("join", "a", "b"),), parse_order, text="join a b")

    def test_empty_text_and_spaces(self):
        self.reads((), "")
        self.rejects(0, " ")
        self.rejects(0, "  ")
        self.rejects(0, " join a b")
        self.rejects(3, "join a b ")
        self.rejects(1, "join  a b")
        self.rejects(2, "join a  b")
        self.rejects(5, "if together a b do  end")

    def test_words_are_read_by_their_place(self):
        self.reads((("join", "end", "join"),), "join end join")
        self.reads((("clear", "do"), ("clear", "clear")), "clear do clear clear")
        self.reads((("if", ("together", "not", "else"), (("join", "else", "end"),), (("clear", "each"),)),),
                   "if together not else do join else end else clear each end")
        self.reads((("while", ("not", ("open", "do", "do")), ()),), "while not open do do do end")
        self.reads((("while", ("not", ("open", "open", "not")), ()),), "until open open not do end")
        self.reads((("each", "E", (("join", "until", "E"),)),), "each E do join until E end")

    def test_variables(self):
        self.rejects(1, "join A b")
        self.rejects(2, "join a A")
        self.rejects(1, "clear A")
        self.rejects(2, "if together A b do end")
        self.rejects(3, "while open a A do end")
        self.rejects(4, "each A do clear B end")
        # Out of its each: behind it, and in the test of a statement that stands there.
        self.rejects(8, "each A do join A b end join A b")
        self.rejects(6, "each A do end until together A b do end")
        self.rejects(9, "each A do each B do end join A B end")
        order = (("each", "A", (("each", "A", (("join", "A", "b"),)), ("join", "A", "c"))),)
        self.reads(order, "each A do each A do join A b end join A c end")
        order = (("each", "A", (("if", ("not", ("open", "A", "A")), (("clear", "A"),), (("clear", "A"),)),)),)
        self.reads(order, "each A do if not open A A do clear A else clear A end end")
        for word in ("a", "AB", "", "1", "each", "*", "Aa", "/"):
            self.rejects(1, f"each {word} do end")
        for word in ("AB", "A1", "/", "*", "1a", "aB", "abcdefghi", "a-b"):
            self.rejects(5, f"each A do join a {word} end")
        self.reads((("clear", "abcdefgh"),), "clear abcdefgh")

    def test_else(self):
        short = (("if", TOGETHER, (("clear", "a"),), ()),)
        self.reads(short, "if together a b do clear a end")
        # An else with nothing behind it.
        self.reads(short, "if together a b do clear a else end")
        self.reads((("if", TOGETHER, (), ()),), "if together a b do else end")
        self.reads((("if", TOGETHER, (), (("clear", "a"),)),), "if together a b do else clear a end")
        self.rejects(6, "if together a b do else else end")
        self.rejects(8, "if together a b do else clear a else end")
        self.rejects(0, "else")
        self.rejects(5, "while together a b do else end")
        self.rejects(3, "each A do else end")
        self.rejects(8, "if together a b do each A do else end end")
        inner = ("if", ("open", "a", "b"), (), (("clear", "a"),))
        self.reads((("if", TOGETHER, (inner,), (inner,)),),
                   "if together a b do if open a b do else clear a end else if open a b do else clear a end end")

    def test_until_and_not(self):
        body = (("clear", "a"),)
        negated = (("while", ("not", TOGETHER), body),)
        self.reads(negated, "until together a b do clear a end")
        self.reads(negated, "while not together a b do clear a end")
        self.reads((("while", TOGETHER, body),), "until not together a b do clear a end")
        self.reads((("while", TOGETHER, body),), "while together a b do clear a end")
        self.reads((("if", ("not", ("open", "a", "b")), (), ()),), "if not open a b do end")
        for word in ("if", "while", "until"):
            self.rejects(2, f"{word} not not together a b do end")
            self.rejects(2, f"{word} not a b do end")
            self.rejects(1, f"{word} a b do end")
            self.rejects(1, f"{word} Not together a b do end")
            self.rejects(4, f"{word} open a b end")
            self.rejects(4, f"{word} open a b c do end")

    def test_texts_that_end_too_early(self):
        text = "each A do if not open a A do join a A else until together a b do clear A end end end"
        words = text.split(" ")
        for many in range(1, len(words)):
            self.rejects(many, " ".join(words[:many]))
        self.reads(read_by_words(text)[1], text)
        text = "join a b clear a"
        for many, complete in ((1, False), (2, False), (3, True), (4, False), (5, True)):
            prefix = " ".join(text.split(" ")[:many])
            if complete:
                self.reads(read_by_words(prefix)[1], prefix)
            else:
                self.rejects(many, prefix)

    def test_other_words(self):
        for word in ("jump", "end", "do", "not", "together", "a", "A", "Join", "/", "*"):
            self.rejects(0, word)
            self.rejects(3, f"join a b {word}")
        self.rejects(6, "if together a b do end end")
        self.rejects(3, "join a b c")
        self.rejects(2, "clear a b")
        self.rejects(2, "join a (b)")

    def test_numbers_of_statements(self):
        twelve = " ".join(["clear a"] * 12)
        self.reads((("clear", "a"),) * 12, twelve)
        self.refuses(TooMany, {"count": 13, "limit": 12}, parse_order, twelve + " join a b")
        inner = "if together a b do " + " ".join(["clear a"] * 5) + " else " + " ".join(["clear b"] * 6) + " end"
        self.assertEqual(count_statements(parse_order(inner)), 12)
        self.refuses(TooMany, {"count": 13, "limit": 12}, parse_order, "clear a " + inner)
        self.refuses(TooMany, {"count": 111, "limit": 12}, parse_order, " ".join(["join a b"] * 111))

    def test_depths(self):
        three = "each A do while open a A do if together a A do clear A end end end"
        self.assertEqual(depth_of(parse_order(three)), 3)
        for head in ("each B do", "if open a b do", "if open a b do else", "until open a b do"):
            self.refuses(TooMany, {"count": 4, "limit": 3}, parse_order, f"{head} {three} end")
            self.refuses(TooMany, {"count": 4, "limit": 3}, parse_order, f"clear a {head} {three} end")
        # Both at once: the number of statements comes first.
        self.refuses(TooMany, {"count": 4, "limit": 3}, parse_order, f"each B do {three} end" + " clear a" * 7)
        self.refuses(TooMany, {"count": 13, "limit": 12}, parse_order, f"each B do {three} end" + " clear a" * 8)
        self.refuses(TooMany, {"count": 71, "limit": 12}, parse_order, "each A do " * 71 + "end " * 70 + "end")

    def test_faulty_words_come_first(self):
        many = " ".join(["clear a"] * 13)
        self.refuses(BadText, {"place": 27}, parse_order, many + " clear A")
        self.refuses(BadText, {"place": 26}, parse_order, many + " end")
        deep = "each A do " * 4
        self.refuses(BadText, {"place": 12}, parse_order, deep + "end" * 4)
        self.refuses(BadText, {"place": 15}, parse_order, deep + "end end end")
        self.refuses(BadText, {"place": 300}, parse_order, ("each A do " * 100)[:-1])

    def test_changed_texts(self):
        rng = random.Random(46)
        words = ["join", "clear", "if", "while", "until", "each", "do", "else", "end", "not", "together",
                 "open", "a", "b", "A", "B", "", "/"]
        kinds = []
        for order in some_orders(400, 461):
            text = format_order(order)
            for whole in (text, text, f"each A do {text} end", f"{text} {text}"):
                changed = whole.split(" ")
                at = rng.randrange(len(changed) + 1)
                kind = rng.choice(["put", "drop", "change", "end", "swap", "keep"])
                if kind == "put":
                    changed.insert(at, rng.choice(words))
                elif kind == "drop":
                    del changed[at:at + 1]
                elif kind == "change":
                    changed[at:at + 1] = [rng.choice(words)]
                elif kind == "end":
                    del changed[at:]
                elif kind == "swap":
                    changed[at:at + 2] = changed[at:at + 2][::-1]
                kinds.append(self.check_text(" ".join(changed)))
        for kind in ("order", "bad", "many"):
            self.assertGreater(kinds.count(kind), 5)

    def check_text(self, text):
        expected = read_by_words(text)
        if expected[0] == "order":
            self.assertEqual(shown(parse_order(text)), shown(expected[1]))
        elif expected[0] == "bad":
            self.refuses(BadText, {"place": expected[1]}, parse_order, text)
        else:
            self.refuses(TooMany, {"count": expected[1], "limit": expected[2]}, parse_order, text)
        return expected[0]


class TestFormat(PromiseCase):
    def test_texts(self):
        cases = {
            "": (),
            "join a b": (("join", "a", "b"),),
            "clear join clear a": (("clear", "join"), ("clear", "a")),
            "if together a b do end": (("if", TOGETHER, (), ()),),
            "if not open a b do clear a end": (("if", ("not", ("open", "a", "b")), (("clear", "a"),), ()),),
            "if together a b do else clear a end": (("if", TOGETHER, (), (("clear", "a"),)),),
            "if together a b do clear b else clear a end":
                (("if", TOGETHER, (("clear", "b"),), (("clear", "a"),)),),
            "while together a b do end": (("while", TOGETHER, ()),),
            "until open a b do end": (("while", ("not", ("open", "a", "b")), ()),),
            "each A do each A do join A b end end": (("each", "A", (("each", "A", (("join", "A", "b"),)),)),),
        }
        for text, order in cases.items():
            self.gives(text, format_order, order)
            self.gives(text, format_order, order=order)
            self.gives(order, parse_order, text)

    def test_a_text_for_each_order(self):
        orders = some_orders(600, 45)
        for order in orders:
            self.assertEqual(shown(parse_order(format_order(order))), shown(order))
        self.assertEqual(len({format_order(order) for order in orders}), len(set(orders)))

    def test_counts_and_depths(self):
        cases = [
            ((), 0, 0),
            ((("join", "a", "b"),), 1, 0),
            ((("clear", "a"),) * 12, 12, 0),
            ((("if", TOGETHER, (), ()),), 1, 1),
            ((("if", TOGETHER, (("clear", "a"),), (("clear", "a"), ("each", "A", ()))), ("clear", "b")), 5, 2),
            ((("while", TOGETHER, (("each", "A", (("if", TOGETHER, (), ()),)),)), ("each", "A", ())), 4, 3),
        ]
        for order, many, depth in cases:
            self.gives(many, count_statements, order)
            self.gives(many, count_statements, order=order)
            self.gives(depth, depth_of, order)
            self.gives(depth, depth_of, order=order)
        for order in some_orders(200, 451):
            self.assertEqual(count_statements(order), counted(order))
            self.assertEqual(depth_of(order), deepest(order))

    def test_order_of(self):
        self.gives((), order_of, [])
        self.gives((("join", "a", "b"), ("join", "x", "x")), order_of, [("a", "b"), ["x", "x"]])
        self.gives((("join", "a", "b"),) * 12, order_of, row=(["a", "b"],) * 12)
        row = [["a", "b"]]
        order = order_of(row)
        row[0][0] = "c"
        self.assertEqual(order, (("join", "a", "b"),))


class TestRun(PromiseCase):
    def runs(self, pond, world, text, after, done):
        order = parse_order(text)
        self.gives((after, done), run_order, pond, world, order)
        self.gives(("world", after), outcome, pond, world, order)
        self.assertEqual(replay(pond, world, done), after)

    def is_refused(self, pond, world, text, place, cause):
        order = parse_order(text)
        self.refuses(OrderRefused, {"place": place, "cause": cause}, run_order, pond, world, order)
        self.gives(("refused", place), outcome, pond, world, order)

    def is_stuck(self, pond, world, text, place):
        order = parse_order(text)
        self.refuses(Stuck, {"place": place}, run_order, pond, world, order)
        self.gives(("stuck", place), outcome, pond, world, order)

    def test_join(self):
        self.runs(FIVE, WORLD, "", WORLD, [])
        self.runs(FIVE, WORLD, "join b d", (("c",), ("a", "e"), ("b", "d")), [("b", "d")])
        self.runs(FIVE.bare(), WORLD, "join d e join e c", (("c", "a", "e", "d"), ("b",)), [("a", "d"), ("c", "a")])
        self.is_refused(FIVE, WORLD, "join x y", (0,), ("unknown", "x"))
        self.is_refused(FIVE, WORLD, "join b d join a y", (1,), ("unknown", "y"))
        self.is_refused(FIVE, WORLD, "join e a", (0,), ("same", ("e", "a")))
        self.is_refused(FIVE, WORLD, "join c c", (0,), ("same", ("c", "c")))
        world = (("c",), ("a", "b"), ("e",), ("d",))
        self.is_refused(FIVE.bare(), world, "join d e", (0,), ("crossed", ("a", "b")))
        self.is_refused(FIVE, WORLD, "join b e", (0,), ("strife", ("a", "b")))
        self.gives((WORLD, []), run_order, pond=FIVE, world=WORLD, order=())
        self.gives(("world", WORLD), outcome, pond=FIVE, world=WORLD, order=())

    def test_clear(self):
        bare = FIVE.bare()
        # The gate of a is on a path of its own, inside the field a e; that of c is on the other.
        self.runs(bare, WORLD, "clear a", WORLD, [])
        self.runs(bare, WORLD, "clear c", (("c", "a", "e", "b", "d"),), [("c", "a"), ("c", "b"), ("c", "d")])
        world = (("c", "b"), ("a",), ("e",), ("d",))
        self.runs(bare, world, "clear e", (("c", "a", "e", "b"), ("d",)), [("c", "a"), ("c", "e")])
        self.runs(bare, world, "clear d", (("c", "b", "d"), ("a",), ("e",)), [("c", "d")])
        self.runs(ALONE, ONLY, "clear a clear a", ONLY, [])
        self.is_refused(FIVE, WORLD, "clear x", (0,), ("unknown", "x"))
        self.is_refused(FIVE, FIVE_SINGLES, "clear e", (0,), ("strife", ("a", "b")))
        # The deeds ahead of the refused one have been done: the strife is one with a later field.
        pond = Pond(["c", "a", "e", "b", "d"], strifes=[("e", "b")])
        self.is_refused(pond, FIVE_SINGLES, "clear c", (0,), ("strife", ("e", "b")))

    def test_tests(self):
        pond, world = FIVE, WORLD
        mark = (("c",), ("a", "e"), ("b", "d"))
        done = [("b", "d")]
        for test in ("together a e", "together e a", "together c c", "open b d", "open c a", "not together c a",
                     "not open a e", "not open c c", "not open a b", "not open c d"):
            self.runs(pond, world, f"if {test} do join b d end", mark, done)
            self.runs(pond, world, f"if {test} do else join b d end", world, [])
        for test in ("together a c", "open a e", "open c c", "open e b", "not together a e", "not open d b"):
            self.runs(pond, world, f"if {test} do join b d end", world, [])
            self.runs(pond, world, f"if {test} do else join b d end", mark, done)
        crossed = (("c",), ("a", "d"), ("e",), ("b",))
        after = (("c",), ("a", "d"), ("e", "b"))
        self.runs(pond, crossed, "if open c e do join c e else join e b end", after, [("e", "b")])

    def test_unknown_lots_in_tests(self):
        for test in ("together x y", "open x a", "not together x x", "not open a x"):
            name = "x"
            for head in ("if", "while"):
                self.is_refused(FIVE, WORLD, f"clear a {head} {test} do end", (1,), ("unknown", name))
        self.is_refused(FIVE, WORLD, "if together a y do end", (0,), ("unknown", "y"))
        self.is_refused(FIVE, WORLD, "until together y x do end", (0,), ("unknown", "y"))
        # An unknown lot behind a test that is not reached does not matter.
        self.runs(FIVE, WORLD, "if together a c do join x y end", WORLD, [])

    def test_while(self):
        bare = FIVE.bare()
        text = "until together c d do if open c a do join c a else join c d end end"
        self.runs(bare, FIVE_SINGLES, text, (("c", "a", "d"), ("e",), ("b",)), [("c", "a"), ("c", "d")])
        self.runs(bare, WORLD, "while together a c do join x x end", WORLD, [])
        self.runs(bare, WORLD, "while open b d do join b d end", (("c",), ("a", "e"), ("b", "d")), [("b", "d")])
        self.is_stuck(bare, WORLD, "while open b d do end", (0,))
        self.is_stuck(bare, WORLD, "join b d until together c a do clear a end", (1,))
        self.is_stuck(bare, WORLD, "while together a e do if open b d do join b d end end", (0,))
        # A deed of an inner statement counts; the inner loop can be the one that is stuck.
        self.is_stuck(bare, WORLD, "while together a e do while open b d do end end", (0, 0, 0))
        self.is_stuck(bare, WORLD, "while together a e do each A do if open A d do join A d end end end", (0,))
        self.is_stuck(bare, WORLD, "if together a c do else while together a a do clear a end end", (0, 1, 0))
        # What is refused in the body comes ahead of being stuck.
        self.is_refused(bare, WORLD, "while together a e do join x a end", (0, 0, 0), ("unknown", "x"))
        self.is_refused(bare, WORLD, "while open b d do clear a join b b end", (0, 0, 1), ("same", ("b", "b")))
        # Once stuck, the test is not made again; a body with a deed leads to the next test.
        self.is_refused(bare, WORLD, "while together a e do join b d end", (0, 0, 0), ("same", ("b", "d")))

    def test_each(self):
        bare = FIVE.bare()
        self.runs(bare, WORLD, "each A do if not together A c do join c A end end", (FIVE.names,),
                  [("c", "a"), ("c", "b"), ("c", "d")])
        # The fields are those at the beginning, also where they have been joined meanwhile.
        self.is_refused(bare, WORLD, "each A do join A b join A c end", (0, 0, 1), ("same", ("c", "c")))
        self.is_refused(bare, WORLD, "each A do clear c if together A a do join b A end end", (0, 0, 1, 0, 0),
                        ("same", ("b", "c")))
        # The lot that the variable holds need not be the first of its field any more.
        text = "each A do if together A e do else if open e A do join A e end end end"
        self.runs(bare, FIVE_SINGLES, text, (FIVE.names,), [("c", "e"), ("c", "a"), ("c", "b"), ("c", "d")])
        self.runs(bare, WORLD, "each A do end", WORLD, [])

    def test_hidden_variables(self):
        bare = FIVE.bare()
        world = (("c", "a", "e"), ("b",), ("d",))
        text = "each A do each A do if open c A do join c A end end if together A d do clear x end end"
        self.is_refused(bare, world, text, (0, 0, 1, 0, 0), ("unknown", "x"))
        text = "each A do each A do end if together A d do join b A end end"
        self.runs(bare, world, text, (("c", "a", "e"), ("b", "d")), [("b", "d")])
        text = "each A do each B do if open A B do join A B end end end"
        self.runs(bare, world, text, (FIVE.names,), [("c", "b"), ("c", "d")])

    def test_places(self):
        bare = FIVE.bare()
        text = "clear a if together a c do clear x else clear a each B do while together B B do join B x end end end"
        self.is_refused(bare, WORLD, text, (1, 1, 1, 0, 0, 0, 0), ("unknown", "x"))
        text = "if together a e do clear a if open x y do end end"
        self.is_refused(bare, WORLD, text, (0, 0, 1), ("unknown", "x"))
        text = "each A do if together A b do clear A else while open A d do join x A end end end"
        self.is_refused(bare, FIVE_SINGLES, text, (0, 0, 0, 1, 0, 0, 0), ("unknown", "x"))
        text = "each A do if together A b do clear A else while open A x do join A b end end end"
        self.is_refused(bare, FIVE_SINGLES, text, (0, 0, 0, 1, 0), ("unknown", "x"))

    def test_faults(self):
        bad = (("join", "x", "y"),)
        for entry in (run_order, outcome):
            self.refuses_bad_worlds(entry, [SIX], [bad])
            for world in (TEN_SINGLES[:8], (), SINGLES):
                self.refuses(TooMany, {"count": 8, "limit": 7}, entry, EIGHT, world, bad)
            self.refuses(TooMany, {"count": 10, "limit": 7}, entry, TEN, WHOLE, ())
        self.gives((SEVEN_SINGLES, []), run_order, SEVEN, SEVEN_SINGLES, ())

    def test_long_runs(self):
        world = (SEVEN.names,)
        text = "each A do each B do each C do" + " clear A clear B clear C" * 3 + " end end end"
        self.runs(SEVEN, SEVEN_SINGLES, text, world, [("j", lot) for lot in SEVEN.names[1:]])
        # Each two lots are at strife, so no test of these holds.
        strict = Pond(SEVEN.names, strifes=pairs_in_order(SEVEN))
        tests = " ".join([f"if open {x} {y} do clear x end" for x, y in ("AB", "BA", "AA", "jA", "Bj")])
        self.runs(strict, SEVEN_SINGLES, f"each A do each B do {tests} end end", SEVEN_SINGLES, [])

    def test_by_their_words(self):
        rng = random.Random(47)
        kinds = []
        for order in some_orders(1500, 471):
            pond = rng.choice([FOUR, FOUR.bare(), *WITH_STRIFES, *small_ponds(4)])
            world = rng.choice(all_worlds(pond))
            expected = run_by_words(pond, world, order)
            kinds.append(expected[0])
            if expected[0] == "world":
                self.assertEqual(shown(run_order(pond, world, order)), shown(expected[1:]))
                self.assertEqual(outcome(pond, world, order), expected[:2])
                self.assertEqual(replay(pond, world, expected[2]), expected[1])
                continue
            self.assertEqual(shown(outcome(pond, world, order)), shown(expected[:2]))
            if expected[0] == "refused":
                attributes = {"place": expected[1], "cause": expected[2]}
                self.refuses(OrderRefused, attributes, run_order, pond, world, order)
            else:
                self.refuses(Stuck, {"place": expected[1]}, run_order, pond, world, order)
        for kind in ("world", "refused", "stuck"):
            self.assertGreater(kinds.count(kind), 20)

    def test_order_of_a_row_does_the_row(self):
        row = [("a", "c"), ("b", "d"), ("e", "a")]
        after = replay(FIVE, FIVE_SINGLES, row)
        self.gives((after, [("c", "a"), ("b", "d"), ("c", "e")]), run_order, FIVE, FIVE_SINGLES, order_of(row))


class TestPart(PromiseCase):
    def test_orders_part(self):
        one = parse_order("join c d")
        two = parse_order("join d c")
        self.gives(None, orders_part, FOUR, one, two)
        self.gives(None, orders_part, pond=FOUR, first=(), second=())
        # From the first world, c and d are together: the join is refused, and the empty order not.
        first = [world for world in by_code(FOUR, all_worlds(FOUR))][0]
        self.assertTrue(is_together(first, "c", "d"))
        self.gives(first, orders_part, FOUR, one, ())
        self.gives(first, orders_part, FOUR, (), one)
        guarded = parse_order("if open c d do join c d end")
        self.gives(None, orders_part, FOUR, guarded, parse_order("while open d c do join d c end"))
        # Where c and d are together and b can come to them, the two differ; before, a stands in the way.
        other = parse_order("if open c d do join c d else if open c b do join c b end end")
        self.gives((("c", "d"), ("a",), ("b",)), orders_part, FOUR, guarded, other)

    def parted(self, pond, first, second):
        for world in by_code(pond, all_worlds(pond)):
            one = run_by_words(pond, world, first)
            two = run_by_words(pond, world, second)
            if one[0] != "world" and two[0] != "world":
                continue
            if one[0] != two[0] or one[1] != two[1]:
                return world
        return None

    def test_refused_on_both_sides(self):
        # Two errors are alike, whatever their kind and place.
        stuck = parse_order("clear c while together c c do end")
        unknown = parse_order("if together c x do end")
        for first, second in itertools.product((stuck, unknown, order_of([("c", "c")])), repeat=2):
            self.gives(None, orders_part, FOUR.bare(), first, second)
        self.gives((FOUR.names,), orders_part, FOUR.bare(), stuck, ())
        self.gives(ONLY, orders_part, ALONE, (), unknown)
        self.gives(None, orders_part, ALONE, (), parse_order("clear a each A do clear A end"))

    def test_too_many_lots(self):
        for pond in (FIVE, SIX, TEN):
            many = {"count": len(pond.names), "limit": 4}
            self.refuses(TooMany, many, orders_part, pond, (), ())
            self.refuses(TooMany, many, orders_part, pond, (("join", "x", "y"),), ())

    def test_by_their_words(self):
        orders = some_orders(160, 48)
        for first, second in zip(orders[::2], orders[1::2]):
            for pond in (FOUR, Pond(["c", "a", "b"]), ALONE):
                expected = self.parted(pond, first, second)
                self.assertEqual(orders_part(pond, first, second), expected)
                kept = [outcome(pond, world, first) for world in all_worlds(pond)]
                self.assertEqual(orders_part(pond, first, first), None)
                self.assertEqual([outcome(pond, world, first) for world in all_worlds(pond)], kept)


if __name__ == "__main__":
    unittest.main()
