"""Partings of the lots of a pond into fields, and worlds.

The marks of a parting are one mark for each lot in shore order; two lots are
together exactly if their marks are equal. They make most questions about
partings questions about rows of numbers.
"""

from hedgejoin.errors import AtStrife, BadParting, BadText, Crossing
from hedgejoin.ponds import check_once
from hedgejoin.shore import crossing_places, is_name, place_pairs


def by_marks(pond, marks):
    """The parting in which two lots are together exactly if their marks are equal."""
    fields = {}
    for lot, mark in zip(pond.names, marks):
        fields.setdefault(mark, []).append(lot)
    return tuple([tuple(fields[mark]) for mark in fields])


def marks_of(pond, parting):
    """For each lot of the pond the index of its field.

    The parting may be one of a greater pond that has all these lots.
    """
    marks = {lot: at for at, field in enumerate(parting) for lot in field}
    return [marks[lot] for lot in pond.names]


def chained(pond, groups):
    """The parting in which two lots are together exactly if a chain of the groups joins them."""
    marks = list(range(len(pond)))
    for group in groups:
        joined = [marks[pond.position(lot)] for lot in group]
        marks = [joined[0] if mark in joined else mark for mark in marks]
    return by_marks(pond, marks)


def parting_of(pond, groups):
    """The parting in which each group is a field and all other lots are single."""
    check_once(pond, [lot for group in groups for lot in group])
    return chained(pond, groups)


def check_parting(pond, parting):
    """Raise BadParting if this is not exactly a parting of the pond."""
    lots = [lot for field in parting for lot in field]
    if sorted(lots) != sorted(pond.names):
        raise BadParting()
    # Built anew, it has its fields and lots sorted and no empty field.
    if parting != by_marks(pond, marks_of(pond, parting)):
        raise BadParting()


def first_crossing(pond, parting):
    """The first four lots, by their positions, at which two fields cross, or None."""
    check_parting(pond, parting)
    return crossing_of(pond, parting)


def crossing_of(pond, parting):
    """What first_crossing returns for what is known to be a parting."""
    rows = [[pond.position(lot) for lot in field] for field in parting]
    found = [crossing_places(rows[one], rows[two]) for one, two in place_pairs(len(rows))]
    places = min([four for four in found if four is not None], default=None)
    if places is None:
        return None
    return tuple([pond.names[at] for at in places])


def first_strife(pond, parting):
    """The first strife that is together in the parting, or None."""
    check_parting(pond, parting)
    return strife_of(pond, parting)


def strife_of(pond, parting):
    """What first_strife returns for what is known to be a parting."""
    found = pairs_in(parting, pond.strifes)
    return found[0] if len(found) > 0 else None


def pairs_in(parting, pairs):
    """Those of the pairs of lots that are together in the parting."""
    return [(x, y) for x, y in pairs if any([x in field and y in field for field in parting])]


def check_uncrossed(pond, parting):
    """Raise BadParting, or Crossing if two fields cross."""
    lots = first_crossing(pond, parting)
    if lots is not None:
        raise Crossing(lots)


def check_peace(pond, parting):
    """Raise AtStrife if a strife is together in what is known to be a parting."""
    pair = strife_of(pond, parting)
    if pair is not None:
        raise AtStrife(pair)


def check_world(pond, parting):
    """Raise the errors of a world."""
    check_uncrossed(pond, parting)
    check_peace(pond, parting)


def is_world(pond, parting):
    """True if check_world raises nothing."""
    try:
        check_world(pond, parting)
    except (BadParting, Crossing, AtStrife):
        return False
    return True


def world_of(pond, groups):
    """The world in which each group is a field and all other lots are single."""
    world = parting_of(pond, groups)
    check_world(pond, world)
    return world


def single_world(pond):
    """The world of single lots."""
    return tuple([(lot,) for lot in pond])


def one_world(pond):
    """The world of one field."""
    world = (pond.names,)
    check_peace(pond, world)
    return world


def format_parting(pond, parting):
    """The text of the parting."""
    check_parting(pond, parting)
    return " / ".join([" ".join(field) for field in parting])


def parse_parting(pond, text):
    """The parting that the text writes."""
    words = text.split(" ")
    for place in range(len(words)):
        if not is_good_word(words, place):
            raise BadText(place)
    groups = [[]]
    for word in words:
        if word == "/":
            groups.append([])
        else:
            groups[-1].append(word)
    return parting_of(pond, groups)


def is_good_word(words, place):
    """True if the word is a name, or a slash between two words and not behind a slash."""
    if words[place] != "/":
        return is_name(words[place])
    return 0 < place < len(words) - 1 and words[place - 1] != "/"


def code(pond, parting):
    """The code of the parting."""
    check_parting(pond, parting)
    return tuple(marks_of(pond, parting))


def from_code(pond, numbers):
    """The parting with this code."""
    if len(numbers) != len(pond):
        raise BadParting()
    parting = by_marks(pond, numbers)
    if marks_of(pond, parting) != list(numbers):
        raise BadParting()
    return parting
