"""What the tests share: checks of calls, and the document's definitions spelled out plainly."""

import unittest

from hedgejoin.errors import HedgeError
from hedgejoin.ponds import Pond

HUGE = 10 ** 5000


def shown(value):
    """The value with the exact kind of each of its parts, so that 1, True and [1] differ."""
    if isinstance(value, Pond):
        return ("Pond", shown(value.names), shown(value.strifes))
    if isinstance(value, (list, tuple)):
        return (type(value).__name__, [shown(item) for item in value])
    if isinstance(value, dict):
        return ("dict", [(shown(key), shown(value[key])) for key in value])
    if hasattr(value, "key") and hasattr(value, "size"):
        return ("Likeness", shown(value.size), shown(value.key))
    return (type(value).__name__, value)


def fresh_parts(value):
    """The lists and ponds in a value: what must be another object in each result."""
    if isinstance(value, Pond):
        return [value]
    if isinstance(value, (list, tuple)):
        inner = [part for item in value for part in fresh_parts(item)]
        return [value, *inner] if isinstance(value, list) else inner
    return []


def spoil(value):
    """Change every list in a returned value."""
    for part in fresh_parts(value):
        if isinstance(part, list):
            part.append("spoiled")


class PromiseCase(unittest.TestCase):
    """Checks that go with every call: exact kinds, fresh objects, unchanged arguments."""

    def gives(self, expected, call, *args, **kwargs):
        owner = getattr(call, "__self__", None)
        passed = [owner, *args, *kwargs.values()]
        before = shown(passed)
        first = call(*args, **kwargs)
        self.assertEqual(shown(first), shown(expected))
        second = call(*args, **kwargs)
        self.assertEqual(shown(second), shown(expected))
        parts = fresh_parts([first, second])
        parts_of_arguments = [part for item in passed for part in fresh_parts(item)]
        places = [id(part) for part in parts]
        self.assertEqual(len(places), len(set(places)))
        self.assertFalse(set(places) & {id(part) for part in parts_of_arguments})
        spoil(first)
        self.assertEqual(shown(call(*args, **kwargs)), shown(expected))
        self.assertEqual(shown(passed), before)

    def refuses(self, kind, attributes, call, *args, **kwargs):
        owner = getattr(call, "__self__", None)
        passed = [owner, *args, *kwargs.values()]
        before = shown(passed)
        for _ in range(2):
            with self.assertRaises(HedgeError) as caught:
                call(*args, **kwargs)
            self.assertIs(type(caught.exception), kind)
            for name, value in attributes.items():
                self.assertEqual(shown(getattr(caught.exception, name)), shown(value))
        self.assertEqual(shown(passed), before)


def all_partings(pond):
    """All partings of the pond, crossing ones too, without any function of the program."""
    found = [()]
    for lot in pond.names:
        grown = []
        for parting in found:
            grown.append(parting + ((lot,),))
            for at, field in enumerate(parting):
                grown.append(parting[:at] + (field + (lot,),) + parting[at + 1:])
        found = grown
    return found


def is_together(parting, x, y):
    return any(x in field and y in field for field in parting)


def pairs_in_order(pond):
    names = pond.names
    return [(x, y) for at, x in enumerate(names) for y in names[at + 1:]]


def fours_in_order(pond):
    names = pond.names
    many = len(names)
    return [
        (names[a], names[b], names[c], names[d])
        for a in range(many)
        for b in range(a + 1, many)
        for c in range(b + 1, many)
        for d in range(c + 1, many)
    ]


def do_cross(pond, one, two):
    """Point 13 as it stands."""
    return any(
        (a in one and c in one and b in two and d in two)
        or (a in two and c in two and b in one and d in one)
        for a, b, c, d in fours_in_order(pond)
    )


def is_uncrossed(pond, parting):
    return not any(
        do_cross(pond, one, two) for at, one in enumerate(parting) for two in parting[at + 1:]
    )


def uncrossed_partings(pond):
    return [parting for parting in all_partings(pond) if is_uncrossed(pond, parting)]


def has_strife(pond, parting):
    return any(is_together(parting, x, y) for x, y in pond.strifes)


def all_worlds(pond):
    return [parting for parting in uncrossed_partings(pond) if not has_strife(pond, parting)]


def lies_within(lower, upper):
    return all(any(set(field) <= set(whole) for whole in upper) for field in lower)


def code_of(pond, parting):
    return tuple(
        [at for lot in pond.names for at, field in enumerate(parting) if lot in field]
    )


def small_ponds(most):
    """Ponds of 1 lot up to `most`, their names not in the order of the alphabet."""
    return [Pond(["c", "a", "e", "b", "f", "d"][:many]) for many in range(1, most + 1)]
