"""The errors: their attributes, and that each stands directly under HedgeError."""

import unittest

from hedgejoin import errors
from hedgejoin.errors import HedgeError
from tests.helpers import HUGE, shown

ATTRIBUTES = {
    "BadName": {"name": "B 7"},
    "RepeatedName": {"name": "a"},
    "UnknownLot": {"name": ""},
    "SameLot": {"name": "a"},
    "BadSize": {"size": 11},
    "BadParting": {},
    "EndsDiffer": {},
    "OtherPond": {},
    "NoRun": {},
    "EmptyBook": {},
    "Crossing": {"lots": ("a", "b", "c", "d")},
    "AtStrife": {"pair": ("a", "b")},
    "NoStrife": {"pair": ("a", "b")},
    "SameField": {"pair": ("b", "a")},
    "NotWithin": {"pair": ("a", "b")},
    "CrossedField": {"field": ("a", "b", "c")},
    "StepRefused": {"place": 2, "cause": ("unknown", "x")},
    "OrderRefused": {"place": (0, 1, 2), "cause": ("same", ("a", "a"))},
    "Stuck": {"place": (3,)},
    "OutOfRange": {"value": -1, "limit": 4},
    "TooMany": {"count": 13, "limit": 12},
    "BadText": {"place": 7},
    "BadSplit": {"place": 0},
    "BadRow": {"place": 40},
    "Ungranted": {"cause": ("apart", ("a", "b"))},
}


class TestErrors(unittest.TestCase):
    def test_all_stand_directly_under_the_base_class(self):
        self.assertEqual(HedgeError.__bases__, (ValueError,))
        for name in ATTRIBUTES:
            with self.subTest(name=name):
                kind = getattr(errors, name)
                self.assertEqual(kind.__bases__, (HedgeError,))
                self.assertEqual(kind.__module__, "hedgejoin.errors")

    def test_attributes(self):
        for name, attributes in ATTRIBUTES.items():
            with self.subTest(name=name):
                with self.assertRaises(HedgeError) as caught:
                    raise getattr(errors, name)(*attributes.values())
                self.assertIs(type(caught.exception), getattr(errors, name))
                for attribute, value in attributes.items():
                    self.assertEqual(shown(getattr(caught.exception, attribute)), shown(value))

    def test_integers_of_thousands_of_digits(self):
        carried = {
            "BadSize": {"size": HUGE},
            "StepRefused": {"place": HUGE, "cause": ("unknown", "x")},
            "OrderRefused": {"place": (HUGE, HUGE), "cause": ("unknown", "x")},
            "Stuck": {"place": (HUGE,)},
            "OutOfRange": {"value": -HUGE, "limit": HUGE},
            "TooMany": {"count": HUGE, "limit": HUGE - 1},
            "BadText": {"place": HUGE},
            "BadSplit": {"place": HUGE},
            "BadRow": {"place": HUGE},
        }
        for name, attributes in carried.items():
            with self.subTest(name=name):
                with self.assertRaises(getattr(errors, name)) as caught:
                    raise getattr(errors, name)(*attributes.values())
                for attribute, value in attributes.items():
                    self.assertTrue(getattr(caught.exception, attribute) == value)


if __name__ == "__main__":
    unittest.main()
