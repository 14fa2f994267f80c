"""book.py: points 19, 27, 48 and 49."""

import random
import unittest

from hedgejoin.book import Book, audit, compare_books, rebuild
from hedgejoin.errors import (
    AtStrife, BadName, BadParting, BadRow, BadSize, CrossedField, Crossing, EmptyBook, HedgeError,
    NoStrife, OutOfRange, RepeatedName, SameField, SameLot, TooMany, UnknownLot,
)
from hedgejoin.partings import is_world
from hedgejoin.ponds import Pond
from hedgejoin.roads import is_answer
from hedgejoin.rows import plain_row, replay
from tests.helpers import (
    ALONE, HUGE, ONLY, SINGLES, SIX, TEN, TEN_SINGLES, TEN_WORLD, WHOLE, PromiseCase, all_partings,
    all_worlds, deed_cause, is_together, joined, pairs_in_order, shown, sorted_parting, turned,
)

FORTY = 10 ** 40
THREE = Pond(["c", "a", "b"], strifes=[("a", "b")])
THREE_SINGLES = (("c",), ("a",), ("b",))
FIVE = Pond(["c", "a", "e", "b", "d"], strifes=[("c", "d"), ("a", "b")])
FIVE_SINGLES = (("c",), ("a",), ("e",), ("b",), ("d",))
WORLD = (("c",), ("a", "e"), ("b", "d"))
# Each of these does nothing wrong in a book about FIVE, one after another.
ROWS = [
    ("deed", "e", "a"), ("lay", "d", "e"), ("lift", "b", "a"), ("come", "x", "d"), ("deed", "d", "b"),
    ("claim", (("c", "a", "e"), ("b", "d"), ("x",)), ("history", (("a", "c"),)), True),
    ("claim", (("c", "d"), ("a", "e"), ("b",), ("x",)), ("parted", ("b", "e")), False),
    ("come", "y", "c"), ("go", "c"), ("lay", "y", "x"), ("deed", "y", "e"), ("go", "x"),
]


def do_row(book, row):
    """Call the method of the row's name with its items."""
    method = getattr(book, row[0])
    if row[0] == "come":
        return method(row[1], after=row[2])
    if row[0] == "claim":
        return method(row[1], row[2])
    return method(*row[1:])


def book_of(pond, rows, *, world=None):
    book = Book(pond, world=world)
    for row in rows:
        do_row(book, row)
    return book


def full_book(pond=FIVE):
    """A book with 40 rows about the pond as it is, all lots single."""
    x, y = pond.names[0], pond.names[2]
    return book_of(pond, [("lay", x, y), ("lift", y, x)] * 20)


def present(book):
    """The present state in plain values."""
    return (book.pond.names, book.pond.strifes, book.world)


def is_new_name(text):
    small = "abcdefghijklmnopqrstuvwxyz"
    return 1 <= len(text) <= 8 and text[0] in small and all(sign in small + "0123456789" for sign in text)


def deed_fault(pond, world, x, y):
    """Point 19 as it stands."""
    kinds = {"unknown": (UnknownLot, "name"), "same": (SameField, "pair"), "crossed": (CrossedField, "field"),
             "strife": (AtStrife, "pair")}
    cause = deed_cause(pond, world, x, y)
    if cause is None:
        return None
    kind, attribute = kinds[cause[0]]
    return (kind, {attribute: cause[1]})


def pair_fault(pond, world, word, x, y):
    """The faults of `lay` and `lift`, as the entries list them."""
    for name in (x, y):
        if name not in pond.names:
            return (UnknownLot, {"name": name})
    if x == y:
        return (SameLot, {"name": x})
    pair = [one for one in pairs_in_order(pond) if set(one) == {x, y}][0]
    if word == "lift":
        return None if pair in pond.strifes else (NoStrife, {"pair": pair})
    if pair in pond.strifes:
        return (AtStrife, {"pair": pair})
    return (SameField, {"pair": (x, y)}) if is_together(world, x, y) else None


def lot_fault(pond, world, word, name, after):
    """The faults of `come` and `go`, as the entries list them."""
    if word == "come":
        if not is_new_name(name):
            return (BadName, {"name": name})
        if name in pond.names:
            return (RepeatedName, {"name": name})
        if after not in pond.names:
            return (UnknownLot, {"name": after})
        return (BadSize, {"size": 11}) if len(pond.names) == 10 else None
    if name not in pond.names:
        return (UnknownLot, {"name": name})
    if len(pond.names) == 1:
        return (BadSize, {"size": 0})
    field = [one for one in world if name in one][0]
    if field == (name,):
        return None
    return (SameField, {"pair": (name, (field * 2)[field.index(name) + 1])})


def fault_by_words(pond, world, row):
    """The error that is due for the row, with its attributes, or None."""
    if row[0] == "deed":
        return deed_fault(pond, world, *row[1:])
    if row[0] in ("lay", "lift"):
        return pair_fault(pond, world, *row)
    if row[0] in ("come", "go"):
        return lot_fault(pond, world, row[0], row[1], row[-1])
    return None if row[1] in all_partings(pond) else (BadParting, {})


def state_by_words(pond, world, row):
    """Point 48: the pond and the world after a row without a fault."""
    word, names, strifes = row[0], list(pond.names), [set(pair) for pair in pond.strifes]
    if word == "deed":
        return (pond, joined(pond, world, row[1], row[2]))
    if word == "lay":
        strifes.append({row[1], row[2]})
    elif word == "lift":
        strifes.remove({row[1], row[2]})
    elif word == "come":
        names.insert(names.index(row[2]) + 1, row[1])
        world = (*world, (row[1],))
    elif word == "go":
        names.remove(row[1])
        strifes = [pair for pair in strifes if row[1] not in pair]
        world = [field for field in world if field != (row[1],)]
    after = Pond(names, strifes=[tuple(pair) for pair in strifes])
    return (after, sorted_parting(after, world))


def random_row(rng, pond, world):
    """A row that may be right or wrong in this state."""
    lots = [*pond.names, *pond.names, rng.choice(["x", "y"])]
    word = rng.choice(["deed", "deed", "lay", "lift", "come", "go", "go", "claim"])
    if word == "come":
        return (word, rng.choice(["x", "y", "z", "x", "y", "z", "Z", "", pond.names[0]]), rng.choice(lots))
    if word == "go":
        return (word, rng.choice(lots))
    if word != "claim":
        if word == "lift" and pond.strifes and rng.random() < 0.7:
            return (word, *rng.choice([rng.choice(pond.strifes), turned(rng.choice(pond.strifes))]))
        return (word, rng.choice(lots), rng.choice(lots))
    goal = rng.choice(all_partings(pond)) if rng.random() < 0.9 else (("x",),)
    pair = tuple(rng.choices(lots, k=2))
    reply = rng.choice([("history", ()), ("history", ((pond.names[0], lots[-2]),)), ("parted", pair),
                        ("strife", pair), ("crossing", pond.names[:4]), ("", ())])
    right = goal in all_partings(pond) and is_answer(pond, world, goal, reply)
    return (word, goal, reply, right if rng.random() < 0.9 else not right)


def random_walk(seed, many):
    """Some rows, right and wrong ones, each with the state before it; a wrong one changes nothing."""
    rng = random.Random(seed)
    pond = rng.choice([THREE, ALONE, Pond(["c", "a", "d", "b"], strifes=[("c", "d")])])
    world = rng.choice(all_worlds(pond))
    walk = []
    for _ in range(many):
        row = random_row(rng, pond, world)
        while len(pond.names) == 5 and row[0] == "come":
            row = random_row(rng, pond, world)
        walk.append((pond, world, row))
        if fault_by_words(pond, world, row) is None:
            pond, world = state_by_words(pond, world, row)
    return walk


class TestBook(PromiseCase):
    def test_a_new_book(self):
        book = Book(FIVE)
        self.assertTrue(book.pond.same_as(FIVE))
        self.assertEqual(shown(book.world), shown(FIVE_SINGLES))
        self.assertEqual(shown(book.start), shown((FIVE, FIVE_SINGLES)))
        self.assertEqual(shown(book.rows), shown(()))
        self.assertEqual(shown(len(book)), shown(0))
        self.assertEqual(list(book), [])
        self.gives([], book.history)
        self.gives([], book.verdicts)
        book = Book(pond=FIVE, world=WORLD)
        self.assertEqual(shown(book.world), shown(WORLD))
        self.assertEqual(shown(book.start), shown((FIVE, WORLD)))
        self.assertEqual(Book(ALONE, world=None).world, ONLY)
        self.assertEqual(Book(TEN).world, TEN_SINGLES)

    def test_faults_of_a_new_book(self):
        def make(pond, world):
            return Book(pond, world=world)
        self.refuses_bad_worlds(make, [SIX])
        self.refuses(BadParting, {}, make, FIVE, ())

    def test_rows(self):
        book = Book(FIVE)
        for index, row in enumerate(ROWS):
            expected = row[-1] if row[0] == "claim" else index
            self.assertEqual(shown(do_row(book, row)), shown(expected))
            self.assertEqual(shown(book.rows), shown(tuple(ROWS[:index + 1])))
            self.assertEqual(shown(len(book)), shown(index + 1))
        self.assertEqual(shown(list(book)), shown(ROWS))
        self.assertEqual(present(book), (("y", "a", "e", "b", "d"), (("e", "d"),), (("y", "a", "e"), ("b", "d"))))
        self.gives([("a", "e"), ("b", "d"), ("y", "a")], book.history)
        self.gives([True, False], book.verdicts)
        self.assertEqual(shown(book.start), shown((FIVE, FIVE_SINGLES)))

    def test_arguments_by_keyword(self):
        book = Book(THREE)
        self.assertEqual(book.deed(x="a", y="c"), 0)
        self.assertEqual(book.lift(x="b", y="a"), 1)
        self.assertEqual(book.lay(x="b", y="c"), 2)
        self.assertEqual(book.come(name="d", after="b"), 3)
        self.assertEqual(book.go(name="d"), 4)
        goal = (("c", "a"), ("b",))
        self.assertIs(book.claim(goal=goal, reply=("history", ())), True)
        self.assertEqual(book.rows[3:], (("come", "d", "b"), ("go", "d"), ("claim", goal, ("history", ()), True)))
        self.assertEqual(shown(book.state_at(place=0)), shown((THREE, THREE_SINGLES)))

    def test_deed(self):
        book = Book(FIVE.bare(), world=(("c",), ("a", "b"), ("e",), ("d",)))
        self.refuses(UnknownLot, {"name": "x"}, book.deed, "x", "y")
        self.refuses(UnknownLot, {"name": "y"}, book.deed, "a", "y")
        self.refuses(SameField, {"pair": ("b", "a")}, book.deed, "b", "a")
        self.refuses(SameField, {"pair": ("e", "e")}, book.deed, "e", "e")
        self.refuses(CrossedField, {"field": ("a", "b")}, book.deed, "e", "c")
        self.refuses(AtStrife, {"pair": ("a", "b")}, Book(FIVE, world=WORLD).deed, "d", "e")
        self.assertEqual(book.deed("d", "b"), 0)
        self.assertEqual(book.world, (("c",), ("a", "b", "d"), ("e",)))
        self.assertEqual(book.rows, (("deed", "d", "b"),))
        self.gives([("a", "d")], book.history)

    def test_lay_and_lift(self):
        book = Book(FIVE, world=WORLD)
        for method in (book.lay, book.lift):
            self.refuses(UnknownLot, {"name": "x"}, method, "x", "y")
            self.refuses(UnknownLot, {"name": "y"}, method, "a", "y")
            self.refuses(UnknownLot, {"name": "x"}, method, "x", "x")
            self.refuses(SameLot, {"name": "a"}, method, "a", "a")
        self.refuses(AtStrife, {"pair": ("c", "d")}, book.lay, "d", "c")
        self.refuses(SameField, {"pair": ("d", "b")}, book.lay, "d", "b")
        self.refuses(SameField, {"pair": ("a", "e")}, book.lay, "a", "e")
        self.refuses(NoStrife, {"pair": ("b", "d")}, book.lift, "d", "b")
        self.refuses(NoStrife, {"pair": ("c", "a")}, book.lift, "c", "a")
        self.assertEqual(book.lay("d", "a"), 0)
        self.assertEqual(book.pond.strifes, (("c", "d"), ("a", "b"), ("a", "d")))
        self.assertEqual(book.lift("d", "c"), 1)
        self.assertEqual(book.pond.strifes, (("a", "b"), ("a", "d")))
        self.assertEqual(book.rows, (("lay", "d", "a"), ("lift", "d", "c")))
        self.assertEqual(book.world, WORLD)
        self.assertEqual(FIVE.strifes, (("c", "d"), ("a", "b")))

    def test_come(self):
        book = Book(FIVE, world=WORLD)
        for name in ("", "A", "1a", "abcdefghi", "a b", "/"):
            self.refuses(BadName, {"name": name}, book.come, name, after="x")
        self.refuses(RepeatedName, {"name": "a"}, book.come, "a", after="x")
        self.refuses(UnknownLot, {"name": "x"}, book.come, "x", after="x")
        self.refuses(UnknownLot, {"name": "y"}, book.come, "x", after="y")
        # Right after a lot in the middle, and after the last one: as the last one.
        self.assertEqual(book.come("x", after="a"), 0)
        self.assertEqual(book.pond.names, ("c", "a", "x", "e", "b", "d"))
        self.assertEqual(book.world, (("c",), ("a", "e"), ("x",), ("b", "d")))
        self.assertEqual(book.come("abcdefgh", after="d"), 1)
        self.assertEqual(book.pond.names, ("c", "a", "x", "e", "b", "d", "abcdefgh"))
        self.assertEqual(book.world, (("c",), ("a", "e"), ("x",), ("b", "d"), ("abcdefgh",)))
        self.assertEqual(book.pond.strifes, FIVE.strifes)
        self.assertEqual(book.rows, (("come", "x", "a"), ("come", "abcdefgh", "d")))

    def test_a_pond_of_ten_lots(self):
        book = Book(TEN, world=TEN_WORLD)
        self.refuses(BadSize, {"size": 11}, book.come, "x", after="j")
        self.refuses(UnknownLot, {"name": "x"}, book.come, "x", after="x")
        self.refuses(RepeatedName, {"name": "j"}, book.come, "j", after="x")
        self.refuses(BadName, {"name": "X"}, book.come, "X", after="x")
        self.assertEqual(book.go("h"), 0)
        self.assertEqual(book.come("x", after="a"), 1)
        self.assertEqual(book.world[-1], ("x",))
        self.refuses(BadSize, {"size": 11}, book.come, "h", after="j")
        self.assertEqual(book.deed("x", "a"), 2)

    def test_go(self):
        book = Book(FIVE, world=(("c", "e"), ("a",), ("b",), ("d",)))
        self.refuses(UnknownLot, {"name": "x"}, book.go, "x")
        self.refuses(SameField, {"pair": ("c", "e")}, book.go, "c")
        self.refuses(SameField, {"pair": ("e", "c")}, book.go, "e")
        self.assertEqual(book.go("a"), 0)
        self.assertEqual(present(book), (("c", "e", "b", "d"), (("c", "d"),), (("c", "e"), ("b",), ("d",))))
        # The strifes of a lot that has left do not come back with its name.
        self.assertEqual(book.come("a", after="c"), 1)
        self.assertEqual(book.pond.strifes, (("c", "d"),))
        world = (("c",), ("a", "e", "b", "d"))
        book = Book(FIVE.bare(), world=world)
        for lot, other in (("a", "e"), ("e", "b"), ("b", "d"), ("d", "a")):
            self.refuses(SameField, {"pair": (lot, other)}, book.go, lot)

    def test_a_pond_of_one_lot(self):
        book = Book(ALONE)
        self.refuses(BadSize, {"size": 0}, book.go, "a")
        self.refuses(UnknownLot, {"name": "b"}, book.go, "b")
        self.assertEqual(book.come("b", after="a"), 0)
        self.assertEqual(present(book), (("a", "b"), (), (("a",), ("b",))))
        self.assertEqual(book.go("a"), 1)
        self.refuses(BadSize, {"size": 0}, book.go, "b")
        self.assertEqual(present(book), (("b",), (), (("b",),)))
        self.assertIs(book.claim((("b",),), ("history", ())), True)

    def test_claim(self):
        book = Book(FIVE, world=WORLD)
        claims = [
            (WORLD, ("history", ()), True),
            ((("c", "a", "e"), ("b", "d")), ("history", (("c", "e"),)), True),
            ((("c", "a", "e"), ("b", "d")), ("history", ()), False),
            ((("c", "b"), ("a", "e"), ("d",)), ("parted", ("d", "b")), True),
            ((("c", "b"), ("a", "e"), ("d",)), ("parted", ("b", "c")), False),
            ((("c", "e"), ("a", "b"), ("d",)), ("crossing", ("c", "a", "e", "b")), True),
            ((("c", "e"), ("a", "b"), ("d",)), ("strife", ("b", "a")), True),
            ((("c", "e"), ("a", "b"), ("d",)), ("strife", ("c", "d")), False),
            (FIVE_SINGLES, ("other", ("a", "e")), False),
        ]
        for at, (goal, reply, verdict) in enumerate(claims):
            self.assertIs(book.claim(goal, reply), verdict)
            self.assertEqual(shown(book.rows[at]), shown(("claim", goal, reply, verdict)))
            self.assertEqual(present(book), (FIVE.names, FIVE.strifes, WORLD))
        self.gives([verdict for _, _, verdict in claims], book.verdicts)
        self.gives([], book.history)
        for goal in ((), (("c",),), (("c", "a"), ("b", "e"), ("d",)), ONLY, SINGLES):
            self.refuses(BadParting, {}, book.claim, goal, ("history", ()))
            self.refuses(BadParting, {}, book.claim, goal, ("other", ("x",)))
        self.assertEqual(len(book), len(claims))

    def test_claims_are_about_the_present(self):
        book = Book(THREE)
        goal = (("c", "a"), ("b",))
        self.assertIs(book.claim(goal, ("history", (("c", "a"),))), True)
        book.deed("a", "c")
        self.assertIs(book.claim(goal, ("history", (("c", "a"),))), False)
        self.assertIs(book.claim(goal, ("history", ())), True)
        book.come("d", after="b")
        self.refuses(BadParting, {}, book.claim, goal, ("history", ()))
        self.assertIs(book.claim((*goal, ("d",)), ("history", ())), True)
        self.gives([True, False, True, True], book.verdicts)

    def test_a_full_book(self):
        many = {"count": 41, "limit": 40}
        book = full_book()
        self.assertEqual(len(book), 40)
        self.refuses(TooMany, many, book.deed, "a", "c")
        self.refuses(TooMany, many, book.lay, "c", "a")
        self.refuses(TooMany, many, book.lift, "d", "c")
        self.refuses(TooMany, many, book.go, "a")
        self.refuses(TooMany, many, book.claim, FIVE_SINGLES, ("history", ()))
        self.refuses(TooMany, many, book.claim, FIVE_SINGLES, ("other", ()))

        def come(name, after):
            return book.come(name, after=after)
        self.refuses(TooMany, many, come, "x", "d")
        # All other errors come ahead of it.
        self.refuses(SameField, {"pair": ("a", "a")}, book.deed, "a", "a")
        self.refuses(AtStrife, {"pair": ("a", "b")}, book.deed, "a", "b")
        self.refuses(UnknownLot, {"name": "x"}, book.deed, "x", "a")
        self.refuses(AtStrife, {"pair": ("c", "d")}, book.lay, "d", "c")
        self.refuses(NoStrife, {"pair": ("c", "a")}, book.lift, "a", "c")
        self.refuses(SameLot, {"name": "c"}, book.lift, "c", "c")
        self.refuses(UnknownLot, {"name": "x"}, book.go, "x")
        self.refuses(BadName, {"name": "X"}, come, "X", "d")
        self.refuses(RepeatedName, {"name": "d"}, come, "d", "d")
        self.refuses(UnknownLot, {"name": "x"}, come, "x", "x")
        self.refuses(BadParting, {}, book.claim, (), ("history", ()))
        self.refuses(BadSize, {"size": 11}, full_book(TEN).come, "x", after="j")
        # When a row is gone, there is room for another one.
        self.assertEqual(book.undo(), ("lift", "e", "c"))
        self.assertEqual(book.deed("a", "c"), 39)
        self.refuses(TooMany, many, book.deed, "e", "b")

    def test_full_books_of_fields_and_of_one_lot(self):
        many = {"count": 41, "limit": 40}
        goal = (("a",),)
        book = Book(ALONE)
        for _ in range(40):
            book.claim(goal, ("history", ()))
        self.refuses(BadSize, {"size": 0}, book.go, "a")
        self.refuses(TooMany, many, book.come, "b", after="a")
        book = Book(FIVE, world=WORLD)
        for _ in range(20):
            book.lay("c", "a")
            book.lift("c", "a")
        self.refuses(SameField, {"pair": ("a", "e")}, book.go, "a")
        self.refuses(SameField, {"pair": ("a", "e")}, book.lay, "a", "e")
        self.refuses(TooMany, many, book.go, "c")

    def test_undo(self):
        book = book_of(FIVE, ROWS)
        for many in reversed(range(len(ROWS))):
            self.assertEqual(shown(book.undo()), shown(ROWS[many]))
            self.assertEqual(present(book), present(book_of(FIVE, ROWS[:many])))
            self.assertEqual(book.rows, tuple(ROWS[:many]))
        self.refuses(EmptyBook, {}, book.undo)
        self.assertEqual(present(book), (FIVE.names, FIVE.strifes, FIVE_SINGLES))
        self.assertEqual(book.deed("a", "c"), 0)
        self.refuses(EmptyBook, {}, Book(ALONE).undo)
        book = Book(FIVE, world=WORLD)
        book.deed("c", "a")
        book.undo()
        self.assertEqual(book.world, WORLD)

    def test_state_at(self):
        book = book_of(FIVE, ROWS)
        for place in range(len(ROWS) + 1):
            pond, world = book.state_at(place)
            self.assertEqual((pond.names, pond.strifes, world), present(book_of(FIVE, ROWS[:place])))
        self.assertEqual(shown(book.state_at(0)), shown(book.start))
        self.assertEqual(shown(book.state_at(len(ROWS))), shown((book.pond, book.world)))
        for place in (-1, len(ROWS) + 1, FORTY, -FORTY, HUGE):
            self.refuses(OutOfRange, {"value": place, "limit": len(ROWS) + 1}, book.state_at, place)
        empty = Book(ALONE)
        self.assertEqual(empty.state_at(0)[1], ONLY)
        for place in (-1, 1):
            self.refuses(OutOfRange, {"value": place, "limit": 1}, empty.state_at, place)
        book.undo()
        self.refuses(OutOfRange, {"value": 12, "limit": 12}, book.state_at, 12)

    def test_history_is_plain_in_its_moment(self):
        book = Book(THREE)
        book.deed("a", "c")
        book.come("d", after="c")
        book.deed("d", "a")
        book.lift("a", "b")
        book.deed("b", "d")
        self.gives([("c", "a"), ("c", "d"), ("c", "b")], book.history)
        book.undo()
        self.gives([("c", "a"), ("c", "d")], book.history)

    def test_twin(self):
        book = book_of(FIVE, ROWS[:6], world=FIVE_SINGLES)
        self.gives(book, book.twin)
        twin = book.twin()
        self.gives(None, compare_books, book, twin)
        before = shown(book)
        twin.go("x")
        self.assertEqual(shown(book), before)
        twin.undo()
        twin.undo()
        self.assertEqual(shown(book), before)
        after = shown(twin)
        book.deed("c", "e")
        self.assertEqual(shown(twin), after)
        self.assertEqual(len(twin), 5)
        self.assertEqual(twin.history(), [("a", "e"), ("b", "d")])

    def test_all_methods_by_their_words(self):
        kinds = []
        for seed in range(60):
            walk = random_walk(seed, 30)
            pond, world, _ = walk[0]
            book = Book(pond, world=world)
            done = []
            for pond, world, row in walk:
                self.assertEqual(present(book), (pond.names, pond.strifes, world))
                self.assertTrue(is_world(book.pond, book.world))
                fault = fault_by_words(pond, world, row)
                if fault is not None:
                    kinds.append(fault[0])
                    self.refuses(*fault, do_row, book, row)
                    continue
                given = do_row(book, row)
                if row[0] == "claim":
                    row = (*row[:3], is_answer(pond, world, row[1], row[2]))
                self.assertEqual(shown(given), shown(row[3] if row[0] == "claim" else len(done)))
                done.append(row)
                self.assertEqual(shown(book.rows), shown(tuple(done)))
        due = {UnknownLot, SameField, AtStrife, CrossedField, SameLot, NoStrife, BadName, RepeatedName,
               BadSize, BadParting}
        self.assertLessEqual(due, set(kinds))

    def test_the_history_against_replayed_rows(self):
        book = book_of(FIVE, [("deed", "e", "c"), ("claim", FIVE_SINGLES, ("", ()), False), ("deed", "d", "b")])
        row = [("e", "c"), ("d", "b")]
        self.assertEqual(book.history(), plain_row(FIVE, FIVE_SINGLES, row))
        self.assertEqual(book.world, replay(FIVE, FIVE_SINGLES, row))


class TestAudit(PromiseCase):
    def wrong_at(self, place, pond, world, rows):
        self.gives(place, audit, pond, world, rows)
        self.gives(place, audit, pond, world, tuple(rows))
        self.refuses(BadRow, {"place": place}, rebuild, pond, world, rows)

    def is_right(self, pond, world, rows):
        self.gives(None, audit, pond, world, rows)
        self.gives(book_of(pond, rows, world=world), rebuild, pond, world, rows)
        self.assertEqual(shown(rebuild(pond, world, tuple(rows))), shown(rebuild(pond, world, rows)))

    def test_right_rows(self):
        self.is_right(FIVE, FIVE_SINGLES, [])
        self.is_right(FIVE, FIVE_SINGLES, ROWS)
        self.is_right(ALONE, ONLY, [("come", "b", "a"), ("deed", "b", "a")])
        self.is_right(TEN, TEN_WORLD, [("go", "h")])
        self.gives(None, audit, pond=FIVE, world=WORLD, rows=[("deed", "c", "a")])
        book = rebuild(pond=FIVE, world=WORLD, rows=[("deed", "c", "a")])
        self.assertEqual((book.world, book.rows), ((("c", "a", "e"), ("b", "d")), (("deed", "c", "a"),)))
        self.assertEqual(book.start[1], WORLD)

    def test_first_items(self):
        for first in ("", "Deed", "join", "deeds", "undo", "twin", "history", "__init__", "rows", 0, 1, -FORTY,
                      HUGE, (), ("deed",), [], ["deed"], [["a"]], (("a",), []), True, False, None):
            for rest in (("a", "c"), ("a",), (FIVE_SINGLES, ("history", ()), True), ()):
                self.wrong_at(0, FIVE, FIVE_SINGLES, [(first, *rest)])
                self.wrong_at(1, FIVE, FIVE_SINGLES, [("deed", "a", "c"), (first, *rest), ()])

    def test_numbers_of_items(self):
        self.wrong_at(0, FIVE, FIVE_SINGLES, [()])
        self.wrong_at(2, FIVE, FIVE_SINGLES, [*ROWS[:2], (), *ROWS[2:]])
        goal = FIVE_SINGLES
        right = [("deed", "a", "c"), ("lay", "a", "c"), ("lift", "c", "d"), ("come", "x", "a"), ("go", "a"),
                 ("claim", goal, ("history", ()), True)]
        for row in right:
            self.is_right(FIVE, FIVE_SINGLES, [row])
            self.wrong_at(0, FIVE, FIVE_SINGLES, [row[:1]])
            self.wrong_at(0, FIVE, FIVE_SINGLES, [row[:-1]])
            for more in (row[-1], "a", True):
                self.wrong_at(0, FIVE, FIVE_SINGLES, [(*row, more)])
                self.wrong_at(1, FIVE, FIVE_SINGLES, [right[2], (*row, more)])

    def test_rows_that_raise(self):
        wrong = [
            ("deed", "x", "a"), ("deed", "a", "a"), ("deed", "a", "b"), ("lay", "a", "b"), ("lay", "a", "a"),
            ("lift", "a", "c"), ("lift", "a", "x"), ("come", "A", "a"), ("come", "a", "c"), ("come", "x", "y"),
            ("go", "x"), ("claim", (), ("history", ()), True), ("claim", (), ("history", ()), False),
            ("claim", THREE_SINGLES, ("parted", ("a", "b")), False),
        ]
        for row in wrong:
            self.wrong_at(0, FIVE, FIVE_SINGLES, [row])
            self.wrong_at(1, FIVE, FIVE_SINGLES, [("lay", "e", "d"), row, ()])
        self.wrong_at(0, FIVE, WORLD, [("go", "a")])
        self.wrong_at(0, FIVE, WORLD, [("lay", "a", "e")])
        self.wrong_at(0, FIVE.bare(), (("c",), ("a", "b"), ("e",), ("d",)), [("deed", "c", "e")])
        self.wrong_at(0, ALONE, ONLY, [("go", "a")])
        self.wrong_at(0, TEN, TEN_WORLD, [("come", "x", "a")])
        self.wrong_at(2, TEN, TEN_WORLD, [("go", "h"), ("come", "x", "a"), ("come", "h", "a")])

    def test_verdicts(self):
        goal = (("c", "a"), ("e",), ("b",), ("d",))
        right, wrong = ("history", (("a", "c"),)), ("history", (("a", "e"),))
        self.is_right(FIVE, FIVE_SINGLES, [("claim", goal, right, True), ("claim", goal, wrong, False)])
        self.wrong_at(0, FIVE, FIVE_SINGLES, [("claim", goal, right, False)])
        self.wrong_at(0, FIVE, FIVE_SINGLES, [("claim", goal, wrong, True)])
        self.wrong_at(1, FIVE, FIVE_SINGLES, [("claim", goal, right, True), ("claim", goal, right, False)])
        # The pond and the world are those of the moment.
        self.wrong_at(1, FIVE, FIVE_SINGLES, [("deed", "a", "c"), ("claim", goal, right, True)])
        self.is_right(FIVE, FIVE_SINGLES, [("deed", "a", "c"), ("claim", goal, right, False)])
        self.wrong_at(1, FIVE, FIVE_SINGLES, [("come", "x", "a"), ("claim", goal, right, True)])

    def test_forty_rows(self):
        rows = [("lay", "c", "e"), ("lift", "e", "c")] * 20
        self.is_right(FIVE, FIVE_SINGLES, rows)
        self.wrong_at(40, FIVE, FIVE_SINGLES, [*rows, ("lay", "c", "e")])
        self.wrong_at(40, FIVE, FIVE_SINGLES, [*rows, ("claim", FIVE_SINGLES, ("history", ()), True)])
        self.wrong_at(40, FIVE, FIVE_SINGLES, rows * 5)
        self.wrong_at(39, FIVE, FIVE_SINGLES, [*rows[:39], ("lay", "c", "e"), ("lay", "c", "e")])

    def test_faults_of_world_come_first(self):
        for entry in (audit, rebuild):
            self.refuses_bad_worlds(entry, [SIX], [[()]])
            self.refuses_bad_worlds(entry, [SIX], [[("deed", "x", "y")]])
            self.refuses(Crossing, {"lots": ("c", "a", "e", "b")}, entry, FIVE, (("c", "e"), ("a", "b"), ("d",)), [()])

    def test_by_their_words(self):
        found = []
        for seed in range(60, 160):
            walk = random_walk(seed, 12)
            pond, world, _ = walk[0]
            rows = [row for _, _, row in walk]
            wrong = [
                at for at, (now, here, row) in enumerate(walk)
                if fault_by_words(now, here, row) is not None
                or (row[0] == "claim" and is_answer(now, here, row[1], row[2]) != row[3])
            ]
            place = wrong[0] if wrong else None
            self.assertEqual(audit(pond, world, rows), place)
            found.append(place)
            kept = rows[:place]
            self.assertIsNone(audit(pond, world, kept))
            book = rebuild(pond, world, kept)
            self.assertEqual(book.rows, tuple(kept))
            self.assertEqual(shown(book), shown(book_of(pond, kept, world=world)))
            self.assertIsNone(compare_books(book, book.twin()))
            if wrong:
                self.refuses(BadRow, {"place": place}, rebuild, pond, world, rows)
        self.assertGreater(len(set(found)), 4)

    def test_a_book_has_only_right_rows(self):
        book = book_of(FIVE, ROWS)
        self.is_right(*book.start, list(book))
        self.assertEqual(shown(rebuild(*book.start, book.rows)), shown(book))


class TestCompare(PromiseCase):
    def test_equal_books(self):
        self.gives(None, compare_books, Book(FIVE), Book(Pond(FIVE.names, strifes=FIVE.strifes[::-1])))
        self.gives(None, compare_books, first=book_of(FIVE, ROWS), second=book_of(FIVE, ROWS))
        book = book_of(FIVE, ROWS)
        self.gives(None, compare_books, book, book)
        # What has been undone does not count.
        other = book_of(FIVE, [*ROWS, ("go", "y")][:len(ROWS)])
        other.lay("y", "b")
        other.undo()
        self.gives(None, compare_books, book, other)

    def test_unlike_starts(self):
        book = Book(FIVE)
        others = [Book(FIVE.bare()), Book(FIVE.with_strife("a", "d")), Book(FIVE, world=WORLD), Book(ALONE),
                  Book(Pond(["a", "c", "e", "b", "d"], strifes=FIVE.strifes)), Book(SIX)]
        for other in others:
            self.gives(-1, compare_books, book, other)
            self.gives(-1, compare_books, other, book)
        # Also where the present is the same, and where the rows differ, too.
        other = book_of(FIVE.bare(), [("lay", "c", "d"), ("lay", "a", "b")])
        self.assertEqual(present(other), present(book))
        self.gives(-1, compare_books, book, other)

    def test_unlike_rows(self):
        book = book_of(FIVE, ROWS)
        for many in range(len(ROWS)):
            self.gives(many, compare_books, book, book_of(FIVE, ROWS[:many]))
            self.gives(many, compare_books, book_of(FIVE, ROWS[:many]), book)
        # Rows are equal as they were passed, not by what they do.
        one = book_of(FIVE, [("lay", "a", "c"), ("deed", "b", "d")])
        self.gives(1, compare_books, one, book_of(FIVE, [("lay", "a", "c"), ("deed", "d", "b")]))
        self.gives(0, compare_books, one, book_of(FIVE, [("lay", "c", "a"), ("deed", "b", "d")]))
        self.gives(0, compare_books, one, book_of(FIVE, [("deed", "b", "d"), ("lay", "a", "c")]))


class TestNothingChanges(PromiseCase):
    def test_later_changes_of_the_arguments(self):
        rows = list(ROWS)
        book = rebuild(FIVE, FIVE_SINGLES, rows)
        before = shown(book)
        rows.append(("go", "y"))
        rows[0] = ()
        self.assertEqual(shown(book), before)
        book.history().append("spoiled")
        book.verdicts().append("spoiled")
        list(book).append("spoiled")
        self.assertEqual(shown(book), before)
        self.assertEqual(len(book.history()), 3)

    def test_a_call_that_raises_changes_nothing(self):
        for seed in range(160, 180):
            walk = random_walk(seed, 20)
            pond, world, _ = walk[0]
            book = Book(pond, world=world)
            for _, _, row in walk:
                before = (shown(book), book.history(), book.verdicts())
                try:
                    do_row(book, row)
                except HedgeError:
                    self.assertEqual((shown(book), book.history(), book.verdicts()), before)

    def test_ponds_stay_as_they_were(self):
        before = shown(FIVE)
        book = book_of(FIVE, ROWS)
        first = shown(book.start)
        book.undo()
        self.assertEqual(shown(FIVE), before)
        self.assertEqual(shown(book.start), first)


if __name__ == "__main__":
    unittest.main()
