"""The errors of the program.

A message shows texts only, never an integer: Python refuses to write out an
integer of thousands of digits, and the error must be raised all the same.
"""


class HedgeError(ValueError):
    """The base class of all errors of the program."""


class BadName(HedgeError):
    """A text is no name."""

    def __init__(self, name):
        HedgeError.__init__(self, f"{name!r} is no name")
        self.name = name


class RepeatedName(HedgeError):
    """A name stands twice where it may stand once."""

    def __init__(self, name):
        HedgeError.__init__(self, f"{name!r} is repeated")
        self.name = name


class UnknownLot(HedgeError):
    """The pond has no lot of this name."""

    def __init__(self, name):
        HedgeError.__init__(self, f"{name!r} is no lot of the pond")
        self.name = name


class SameLot(HedgeError):
    """One lot is named where two different ones are due."""

    def __init__(self, name):
        HedgeError.__init__(self, f"{name!r} is named where two different lots are due")
        self.name = name


class BadSize(HedgeError):
    """A size is out of its range."""

    def __init__(self, size):
        HedgeError.__init__(self, "the size is out of its range")
        self.size = size


class BadParting(HedgeError):
    """What should be a parting of the pond is none."""


class EndsDiffer(HedgeError):
    """Two rows of deeds, or a row and a world, lead to different worlds."""


class OtherPond(HedgeError):
    """Two things that should belong to one pond belong to two."""


class NoRun(HedgeError):
    """There is no run, or no history, of the kind asked for."""


class EmptyBook(HedgeError):
    """A book without rows has no last row."""


class Crossing(HedgeError):
    """Two fields of a parting cross."""

    def __init__(self, lots):
        HedgeError.__init__(self, f"fields cross at the lots {lots!r}")
        self.lots = lots


class AtStrife(HedgeError):
    """Two lots at strife are together, or would come together."""

    def __init__(self, pair):
        HedgeError.__init__(self, f"the lots {pair!r} are at strife")
        self.pair = pair


class NoStrife(HedgeError):
    """Two lots are not at strife."""

    def __init__(self, pair):
        HedgeError.__init__(self, f"the lots {pair!r} are not at strife")
        self.pair = pair


class SameField(HedgeError):
    """Two lots lie in one field where two fields are due."""

    def __init__(self, pair):
        HedgeError.__init__(self, f"the lots {pair!r} lie in one field")
        self.pair = pair


class NotWithin(HedgeError):
    """One parting does not lie within another one."""

    def __init__(self, pair):
        HedgeError.__init__(self, f"the lots {pair!r} are together below and apart above")
        self.pair = pair


class CrossedField(HedgeError):
    """A joined field would cross this field."""

    def __init__(self, field):
        HedgeError.__init__(self, f"the joined field would cross the field {field!r}")
        self.field = field


class StepRefused(HedgeError):
    """A deed of a row of deeds is refused."""

    def __init__(self, place, cause):
        HedgeError.__init__(self, f"a deed of the row is refused: {cause!r}")
        self.place = place
        self.cause = cause


class OrderRefused(HedgeError):
    """A statement of an order is refused."""

    def __init__(self, place, cause):
        HedgeError.__init__(self, f"a statement of the order is refused: {cause!r}")
        self.place = place
        self.cause = cause


class Stuck(HedgeError):
    """A loop of an order has run its body without a deed."""

    def __init__(self, place):
        HedgeError.__init__(self, "a loop of the order does no deed any more")
        self.place = place


class OutOfRange(HedgeError):
    """A value is less than 0, or not less than the limit."""

    def __init__(self, value, limit):
        HedgeError.__init__(self, "the value is less than 0 or not less than the limit")
        self.value = value
        self.limit = limit


class TooMany(HedgeError):
    """A count is greater than the limit."""

    def __init__(self, count, limit):
        HedgeError.__init__(self, "the count is greater than the limit")
        self.count = count
        self.limit = limit


class BadText(HedgeError):
    """A word of a text cannot stand where it stands."""

    def __init__(self, place):
        HedgeError.__init__(self, "a word of the text cannot stand where it stands")
        self.place = place


class BadSplit(HedgeError):
    """The parts do not make up a whole."""

    def __init__(self, place):
        HedgeError.__init__(self, "the parts do not make up a whole")
        self.place = place


class BadRow(HedgeError):
    """A row of a book is wrong."""

    def __init__(self, place):
        HedgeError.__init__(self, "a row of the book is wrong")
        self.place = place


class Ungranted(HedgeError):
    """No world grants the wish."""

    def __init__(self, cause):
        HedgeError.__init__(self, f"no world grants the wish: {cause!r}")
        self.cause = cause
