"""What the tests share: checks of calls, and the document's definitions spelled out plainly."""

import unittest

from hedgejoin.errors import AtStrife, BadParting, Crossing, HedgeError, NotWithin
from hedgejoin.ponds import Pond

HUGE = 10 ** 5000


def shown(value):
    """The value with the exact kind of each of its parts, so that 1, True and [1] differ."""
    if is_own(value):
        parts = [name for name, item in vars(type(value)).items() if isinstance(item, property)]
        parts += [name for name in vars(value) if not name.startswith("_")]
        return (type(value).__name__, [(name, shown(getattr(value, name))) for name in parts])
    if isinstance(value, (list, tuple)):
        return (type(value).__name__, [shown(item) for item in value])
    if isinstance(value, dict):
        return ("dict", [(shown(key), shown(value[key])) for key in value])
    return (type(value).__name__, value)


def is_own(value):
    """True for an object of the program; its properties tell all that is promised of it."""
    return type(value).__module__.startswith("hedgejoin.")


def fresh_parts(value):
    """The lists and objects in a value: what must be another object in each result."""
    if is_own(value):
        return [value]
    if isinstance(value, (list, tuple)):
        inner = [part for item in value for part in fresh_parts(item)]
        return [value, *inner] if isinstance(value, list) else inner
    return []


def spoil(value):
    """Change every list in a returned value."""
    for part in fresh_parts(value):
        if isinstance(part, list):
            part.append("spoiled")


class PromiseCase(unittest.TestCase):
    """Checks that go with every call: exact kinds, fresh objects, unchanged arguments."""

    def gives(self, expected, call, *args, **kwargs):
        owner = getattr(call, "__self__", None)
        passed = [owner, *args, *kwargs.values()]
        before = shown(passed)
        first = call(*args, **kwargs)
        self.assertEqual(shown(first), shown(expected))
        second = call(*args, **kwargs)
        self.assertEqual(shown(second), shown(expected))
        parts = fresh_parts([first, second])
        parts_of_arguments = [part for item in passed for part in fresh_parts(item)]
        places = [id(part) for part in parts]
        self.assertEqual(len(places), len(set(places)))
        self.assertFalse(set(places) & {id(part) for part in parts_of_arguments})
        spoil(first)
        self.assertEqual(shown(call(*args, **kwargs)), shown(expected))
        self.assertEqual(shown(passed), before)

    def refuses(self, kind, attributes, call, *args, **kwargs):
        owner = getattr(call, "__self__", None)
        passed = [owner, *args, *kwargs.values()]
        before = shown(passed)
        for _ in range(2):
            with self.assertRaises(HedgeError) as caught:
                call(*args, **kwargs)
            self.assertIs(type(caught.exception), kind)
            for name, value in attributes.items():
                self.assertEqual(shown(getattr(caught.exception, name)), shown(value))
        self.assertEqual(shown(passed), before)

    def refuses_bad_worlds(self, call, before, after=()):
        """The call raises the errors of a world of SIX for the argument between the given ones."""
        for parting, kind, attributes in BAD_WORLDS:
            self.refuses(kind, attributes, call, *before, parting, *after)

    def refuses_roads(self, call, after=()):
        """The call raises the errors of two worlds of SIX, the first within the second."""
        self.refuses_bad_worlds(call, [SIX], [(), *after])
        self.refuses_bad_worlds(call, [SIX, SINGLES], after)
        low = (("f",), ("a",), ("e", "b"), ("d",), ("c",))
        high = (("f", "e"), ("a",), ("b", "d"), ("c",))
        self.refuses(NotWithin, {"pair": ("e", "b")}, call, SIX, low, high, *after)
        self.refuses(NotWithin, {"pair": ("f", "e")}, call, SIX, high, low, *after)


def all_partings(pond):
    """All partings of the pond, crossing ones too, without any function of the program."""
    found = [()]
    for lot in pond.names:
        grown = []
        for parting in found:
            grown.append(parting + ((lot,),))
            for at, field in enumerate(parting):
                grown.append(parting[:at] + (field + (lot,),) + parting[at + 1:])
        found = grown
    return found


def is_together(parting, x, y):
    return any(x in field and y in field for field in parting)


def pairs_in_order(pond):
    names = pond.names
    return [(x, y) for at, x in enumerate(names) for y in names[at + 1:]]


def fours_in_order(pond):
    names = pond.names
    many = len(names)
    return [
        (names[a], names[b], names[c], names[d])
        for a in range(many)
        for b in range(a + 1, many)
        for c in range(b + 1, many)
        for d in range(c + 1, many)
    ]


def do_cross(pond, one, two):
    """Point 13 as it stands."""
    return any(
        (a in one and c in one and b in two and d in two)
        or (a in two and c in two and b in one and d in one)
        for a, b, c, d in fours_in_order(pond)
    )


def is_uncrossed(pond, parting):
    return not any(
        do_cross(pond, one, two) for at, one in enumerate(parting) for two in parting[at + 1:]
    )


def uncrossed_partings(pond):
    return [parting for parting in all_partings(pond) if is_uncrossed(pond, parting)]


def has_strife(pond, parting):
    return any(is_together(parting, x, y) for x, y in pond.strifes)


def all_worlds(pond):
    return [parting for parting in uncrossed_partings(pond) if not has_strife(pond, parting)]


def lies_within(lower, upper):
    return all(any(set(field) <= set(whole) for whole in upper) for field in lower)


def code_of(pond, parting):
    return tuple(
        [at for lot in pond.names for at, field in enumerate(parting) if lot in field]
    )


def small_ponds(most):
    """Ponds of 1 lot up to `most`, their names not in the order of the alphabet."""
    return [Pond(["c", "a", "e", "b", "f", "d"][:many]) for many in range(1, most + 1)]


def lots_after(pond, first, last):
    """Point 7: the lots after the first up to the last, going around."""
    met = []
    at = pond.names.index(first)
    while not met or met[-1] != last:
        at = (at + 1) % len(pond.names)
        met.append(pond.names[at])
    return met


def on_one_path(pond, world, first, second):
    """Point 22 as it stands, for two different gates, the first one earlier."""
    inside = lots_after(pond, first, second)
    return not any(
        any(lot in inside for lot in field) and any(lot not in inside for lot in field)
        for field in world
    )


def paths_by_words(pond, world):
    paths = []
    for gate in pond.names:
        for at, path in enumerate(paths):
            if on_one_path(pond, world, path[0], gate):
                paths[at] = path + (gate,)
                break
        else:
            paths.append((gate,))
    return tuple(paths)


def sorted_parting(pond, groups):
    """The groups as the fields of a parting, in the order of point 11."""
    fields = [tuple([lot for lot in pond.names if lot in group]) for group in groups]
    return tuple(sorted(fields, key=lambda field: pond.names.index(field[0])))


def joined(pond, parting, x, y):
    """The parting in which the fields of x and y, which are apart, are one; it may cross."""
    both = [lot for field in parting if x in field or y in field for lot in field]
    rest = [field for field in parting if x not in field and y not in field]
    return sorted_parting(pond, [*rest, both])


def deed_cause(pond, world, x, y):
    """Point 19 as it stands: the cause for which the deed is refused, or None."""
    for name in (x, y):
        if name not in pond.names:
            return ("unknown", name)
    if is_together(world, x, y):
        return ("same", (x, y))
    one, two = [[field for field in world if lot in field][0] for lot in (x, y)]
    for field in world:
        if field not in (one, two) and do_cross(pond, field, one + two):
            return ("crossed", field)
    for strife in pond.strifes:
        if is_together([one + two], *strife):
            return ("strife", strife)
    return None


def deeds_from(pond, world):
    """Point 19: each plain deed that stands, in pair order, with the world after it."""
    found = []
    for at, one in enumerate(world):
        for two in world[at + 1:]:
            after = joined(pond, world, one[0], two[0])
            if is_uncrossed(pond, after) and not has_strife(pond, after):
                found.append(((one[0], two[0]), after))
    return found


def histories_by_words(pond, start, end):
    """Point 20: all plain rows from start to end, sorted, found by doing every deed."""
    if start == end:
        return [[]]
    return [
        [deed, *row]
        for deed, after in deeds_from(pond, start)
        if len(after) >= len(end)
        for row in histories_by_words(pond, after, end)
    ]


def rows_between(pond, lower, upper):
    """The same, but only deeds that stay within the end are tried."""
    if lower == upper:
        return [[]]
    return [
        [deed, *row]
        for deed, after in deeds_from(pond, lower)
        if lies_within(after, upper)
        for row in rows_between(pond, after, upper)
    ]


def passed_by(pond, start, row):
    """The worlds that a row of deeds passes, the start included."""
    worlds = [start]
    for x, y in row:
        worlds.append(joined(pond, worlds[-1], x, y))
    return worlds


def inner_by_words(pond, lower, upper):
    """Point 29 as it stands."""
    groups = []
    for lot in pond.names:
        for group in groups:
            if on_one_inner_path(pond, lower, upper, group[0], lot):
                group.append(lot)
                break
        else:
            groups.append([lot])
    return sorted_parting(pond, groups)


def on_one_inner_path(pond, lower, upper, first, second):
    if not is_together(upper, first, second):
        return False
    whole = [field for field in upper if first in field][0]
    inside = [lot for lot in lots_after(pond, first, second) if lot in whole]
    return not any(
        any(lot in inside for lot in field)
        and any(lot in whole and lot not in inside for lot in field)
        for field in lower
    )


def smalls_by_words(pond, lower, upper):
    """Point 30 as it stands."""
    return [
        tuple([field[0] for field in lower if any(lot in path for lot in field)])
        for path in inner_by_words(pond, lower, upper)
    ]


def small_by_words(lots, world):
    """Point 31: the parting of the lots in which the same ones are together."""
    groups = [[lot for lot in field if lot in lots] for field in world]
    return sorted_parting(Pond(lots), [group for group in groups if group])


def worlds_between(pond, lower, upper):
    """Point 31: the worlds over the one and within the other, in no promised order."""
    return [
        world for world in all_worlds(pond)
        if lies_within(lower, world) and lies_within(world, upper)
    ]


def over(pond, groups):
    """The uncrossed partings of the pond in which each group lies in one field."""
    return [
        parting for parting in uncrossed_partings(pond)
        if all(any(set(group) <= set(field) for field in parting) for group in groups)
    ]


def least_of(partings):
    """The one of the partings that lies within all of them."""
    return [one for one in partings if all(lies_within(one, other) for other in partings)][0]


def closing_by_words(pond, groups):
    """Point 37: the smallest uncrossed parting in which each group lies in one field."""
    return least_of(over(pond, groups))


def by_code(pond, partings):
    return sorted(partings, key=lambda parting: code_of(pond, parting))


def turned(pair):
    return (pair[1], pair[0])


def some_of(items, rng, many):
    """Many of the items, by chance but always the same ones; all if there are not more."""
    return rng.sample(items, many) if len(items) > many else list(items)


SIX = Pond(["f", "a", "e", "b", "d", "c"], strifes=[("e", "d"), ("f", "c")])
SINGLES = (("f",), ("a",), ("e",), ("b",), ("d",), ("c",))

# Each is no world of SIX, with the error and its attributes.
BAD_WORLDS = [
    ((("a",), ("f", "e"), ("b", "d"), ("c",)), BadParting, {}),
    ((("f", "e"), ("a",), ("d", "b"), ("c",)), BadParting, {}),
    ((("f", "e"), ("a",), ("b", "d")), BadParting, {}),
    ((), BadParting, {}),
    ((("f", "e"), ("a", "b", "d"), ("c",)), Crossing, {"lots": ("f", "a", "e", "b")}),
    ((("f", "b"), ("a",), ("e", "d"), ("c",)), Crossing, {"lots": ("f", "e", "b", "d")}),
    ((("f",), ("a",), ("e", "b", "d"), ("c",)), AtStrife, {"pair": ("e", "d")}),
    ((("f", "a", "e", "b", "d", "c"),), AtStrife, {"pair": ("f", "c")}),
]

# Of these worlds of SIX the first lies within the second; the small ponds between them are
# (f, a), (f), (b), (b, c).
LOW = (("f", "e"), ("a",), ("b", "d"), ("c",))
HIGH = (("f", "a", "e"), ("b", "d", "c"))

ALONE = Pond(["a"])
ONLY = (("a",),)

TEN = Pond(["j", "i", "h", "g", "f", "e", "d", "c", "b", "a"])
WHOLE = (TEN.names,)
TEN_SINGLES = tuple([(lot,) for lot in TEN.names])
# The small ponds from this world to WHOLE are (j, i), (i, h), (j, e, d), (d, c, b).
TEN_WORLD = (("j", "f"), ("i", "g"), ("h",), ("e",), ("d", "a"), ("c",), ("b",))


def one_field(many):
    """The world of TEN in which the first lots are one field and the others are single."""
    return (TEN.names[:many], *TEN_SINGLES[many:])


WITH_STRIFES = [
    Pond(["b", "a"], strifes=[("a", "b")]),
    Pond(["c", "a", "b"], strifes=[("a", "b")]),
    Pond(["c", "a", "d", "b"], strifes=[("a", "b"), ("c", "d")]),
    Pond(["c", "a", "e", "b", "d"], strifes=[("c", "d"), ("a", "b"), ("b", "d")]),
]


def all_cases(most):
    """Each small pond, with and without strifes, with each of its worlds."""
    ponds = small_ponds(most) + [pond for pond in WITH_STRIFES if len(pond.names) <= most]
    return [(pond, world) for pond in ponds for world in all_worlds(pond)]


def all_roads(most):
    """Each small pond, with each two worlds of which the first lies within the second."""
    return [
        (pond, lower, upper)
        for pond in [*small_ponds(most), *WITH_STRIFES]
        if len(pond.names) <= most
        for lower in all_worlds(pond)
        for upper in all_worlds(pond)
        if lies_within(lower, upper)
    ]
