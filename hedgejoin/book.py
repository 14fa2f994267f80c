"""Books: a pond and a world, and the rows by which they have changed."""

from hedgejoin.deeds import cause_of, joined_world, plain_of, refuse
from hedgejoin.errors import (
    AtStrife, BadRow, BadSize, EmptyBook, HedgeError, NoStrife, RepeatedName, SameField,
)
from hedgejoin.fields import holder, neighbor
from hedgejoin.limits import check_most, check_range
from hedgejoin.partings import check_world, parting_of, single_world
from hedgejoin.ponds import Pond, check_lot, sub_pond
from hedgejoin.roads import is_answer
from hedgejoin.shore import MOST_LOTS, check_name

MOST_ROWS = 40
ITEMS = {"deed": 3, "lay": 3, "lift": 3, "come": 3, "go": 2, "claim": 4}


class Book:
    """A start and the rows that have changed it."""

    def __init__(self, pond, *, world=None):
        begin = single_world(pond)
        if world is not None:
            check_world(pond, world)
            begin = world
        self._rows = ()
        # The pond and the world before each row, and those that are present.
        self._states = ((pond, begin),)

    @property
    def pond(self):
        """The present pond."""
        return self._states[-1][0]

    @property
    def world(self):
        """The present world."""
        return self._states[-1][1]

    @property
    def start(self):
        """The pond and the world ahead of all rows."""
        return self._states[0]

    @property
    def rows(self):
        """The rows."""
        return self._rows

    def __len__(self):
        return len(self._rows)

    def __iter__(self):
        return iter(self._rows)

    def _add(self, row, pond, world):
        """Add a row after which the pond and the world are these, and return its index."""
        check_most(len(self._rows) + 1, MOST_ROWS)
        self._rows = (*self._rows, row)
        self._states = (*self._states, (pond, world))
        return len(self._rows) - 1

    def deed(self, x, y):
        """Do the deed."""
        pond, world = self._states[-1]
        cause = cause_of(pond, world, x, y)
        if cause is not None:
            refuse(cause)
        return self._add(("deed", x, y), pond, joined_world(pond, world, x, y))

    def lay(self, x, y):
        """Lay a strife."""
        pond, world = self._states[-1]
        pair = pond.pair_of(x, y)
        if pond.at_strife(x, y):
            raise AtStrife(pair)
        if y in holder(world, x):
            raise SameField((x, y))
        return self._add(("lay", x, y), pond.with_strife(x, y), world)

    def lift(self, x, y):
        """End a strife."""
        pond, world = self._states[-1]
        pair = pond.pair_of(x, y)
        if not pond.at_strife(x, y):
            raise NoStrife(pair)
        return self._add(("lift", x, y), pond.without_strife(x, y), world)

    def come(self, name, *, after):
        """Add a lot right after another one, as a field of its own."""
        pond, world = self._states[-1]
        check_name(name)
        if name in pond:
            raise RepeatedName(name)
        at = pond.position(after) + 1
        if len(pond) == MOST_LOTS:
            raise BadSize(MOST_LOTS + 1)
        grown = Pond([*pond.names[:at], name, *pond.names[at:]], strifes=pond.strifes)
        return self._add(("come", name, after), grown, parting_of(grown, world))

    def go(self, name):
        """Remove a single lot."""
        pond, world = self._states[-1]
        check_lot(pond, name)
        if len(pond) == 1:
            raise BadSize(0)
        field = holder(world, name)
        if len(field) > 1:
            raise SameField((name, neighbor(field, name, False)))
        rest = sub_pond(pond, [lot for lot in pond if lot != name])
        return self._add(("go", name), rest, tuple([other for other in world if other != field]))

    def claim(self, goal, reply):
        """File an answer to whether the goal comes, and return whether it is right."""
        pond, world = self._states[-1]
        verdict = is_answer(pond, world, goal, reply)
        self._add(("claim", goal, reply, verdict), pond, world)
        return verdict

    def undo(self):
        """Remove the last row and return it."""
        if len(self._rows) == 0:
            raise EmptyBook()
        row = self._rows[-1]
        self._rows = self._rows[:-1]
        self._states = self._states[:-1]
        return row

    def state_at(self, place):
        """The pond and the world after so many rows."""
        check_range(place, len(self._states))
        return self._states[place]

    def history(self):
        """The plain deeds of the rows of deeds."""
        done = [(world, row) for (_, world), row in zip(self._states, self._rows) if row[0] == "deed"]
        return [plain_of(world, x, y) for world, (_, x, y) in done]

    def verdicts(self):
        """The verdicts of the claims."""
        return [row[-1] for row in self._rows if row[0] == "claim"]

    def twin(self):
        """A new book with the same start and the same rows."""
        pond, world = self._states[0]
        other = Book(pond, world=world)
        other._rows = self._rows
        other._states = self._states
        return other


def add_row(book, row):
    """Add a row to the book as point 49 says. True if it is not wrong."""
    word = row[0]
    if word == "deed":
        book.deed(row[1], row[2])
    elif word == "lay":
        book.lay(row[1], row[2])
    elif word == "lift":
        book.lift(row[1], row[2])
    elif word == "come":
        book.come(row[1], after=row[2])
    elif word == "go":
        book.go(row[1])
    else:
        return book.claim(row[1], row[2]) == row[3]
    return True


def is_formed(row):
    """True if the row begins with one of the six words and has as many items as are due."""
    # The first item may be a list, which no dict could look up.
    return len(row) > 0 and row[0] in list(ITEMS) and len(row) == ITEMS[row[0]]


def is_right(book, row):
    """True if the row, which is not wrong, has been added to the book."""
    if not is_formed(row):
        return False
    try:
        right = add_row(book, row)
    except HedgeError:
        return False
    return right


def add_rows(book, rows):
    """Add the rows to the book up to the first wrong one, and return its index, or None."""
    for place, row in enumerate(rows):
        if not is_right(book, row):
            return place
    return None


def audit(pond, world, rows):
    """The index of the first wrong row, or None."""
    return add_rows(Book(pond, world=world), rows)


def rebuild(pond, world, rows):
    """The new book with this start and these rows."""
    book = Book(pond, world=world)
    place = add_rows(book, rows)
    if place is not None:
        raise BadRow(place)
    return book


def compare_books(first, second):
    """None, or -1 if the starts differ, or the first index at which the rows differ."""
    pond, world = first.start
    other_pond, other_world = second.start
    if not pond.same_as(other_pond) or world != other_world:
        return -1
    many = min(len(first), len(second))
    for place in range(many):
        if first.rows[place] != second.rows[place]:
            return place
    return None if len(first) == len(second) else many
