"""shore.py: points 6, 7 and 8."""

import itertools
import string
import unittest

from hedgejoin.errors import BadName
from hedgejoin.shore import check_name, crossed, in_span, is_name, span, step
from tests.helpers import HUGE, PromiseCase

GOOD_NAMES = ["a", "z", "m5", "a0", "a9", "abcdefgh", "a1234567", "zzzzzzzz", "end", "join"]
BAD_NAMES = ["", "A", "Z", "5", "0a", "9", "aB", "a b", " a", "a ", "a-", "a_b", "/", "a/", "`", "{",
             "abcdefghi", "a12345678", "a" * 1000, "a:", "a@", "a.", "-a", "aaaaaaaA", "aaaaaaa "]


class TestNames(PromiseCase):
    def test_good_names(self):
        for text in GOOD_NAMES:
            self.gives(True, is_name, text)
            self.gives(None, check_name, text)

    def test_bad_names(self):
        for text in BAD_NAMES:
            self.gives(False, is_name, text)
            self.refuses(BadName, {"name": text}, check_name, text)

    def test_each_sign(self):
        signs = [chr(at) for at in range(32, 127) if chr(at) != "%"]
        for sign in signs:
            lower = sign in string.ascii_lowercase
            self.gives(lower, is_name, sign)
            self.gives(lower or sign in string.digits, is_name, "a" + sign)
            self.gives(lower or sign in string.digits, is_name, "abcdefg" + sign)

    def test_by_keyword(self):
        self.gives(True, is_name, text="a")
        self.refuses(BadName, {"name": "A"}, check_name, text="A")


class TestPositions(PromiseCase):
    def test_step(self):
        self.gives(3, step, 5, 2)
        self.gives(0, step, 5, 4)
        self.gives(4, step, 5, 0, by=-1)
        self.gives(2, step, 5, 2, by=0)
        self.gives(2, step, 5, 2, by=5)
        self.gives(1, step, 5, 1, by=1000)
        self.gives(1, step, 5, 1, by=-1000)
        self.gives(2, step, 3, 0, by=-1000)
        self.gives(1, step, 3, 0, by=1000)
        self.gives(0, step, 1, 0)
        self.gives(0, step, 1, 0, by=-7)
        self.gives(9, step, size=10, at=8)
        self.gives(1, step, size=10, at=8, by=3)

    def test_span(self):
        self.gives([3, 4, 0, 1], span, 5, 3, 1)
        self.gives([1, 2, 3], span, 5, 1, 3)
        self.gives([2], span, 5, 2, 2)
        self.gives([0], span, 1, 0, 0)
        self.gives([4, 0], span, 5, 4, 0)
        self.gives([0, 1, 2, 3, 4], span, 5, 0, 4)
        self.gives([7, 8, 9, 0, 1, 2, 3, 4, 5, 6], span, size=10, first=7, last=6)

    def test_span_by_its_words(self):
        for size in range(1, 11):
            for first in range(size):
                for last in range(size):
                    around = [first]
                    while around[-1] != last:
                        around.append(around[-1] + 1 if around[-1] + 1 < size else 0)
                    self.assertEqual(span(size, first, last), around)

    def test_in_span(self):
        self.gives(True, in_span, 5, 0, 3, 1)
        self.gives(False, in_span, 5, 2, 3, 1)
        self.gives(True, in_span, 5, 2, 2, 2)
        self.gives(False, in_span, 5, 3, 2, 2)
        self.gives(True, in_span, size=5, at=4, first=3, last=1)

    def test_in_span_is_membership_in_span(self):
        for size in range(1, 11):
            for at, first, last in itertools.product(range(size), repeat=3):
                self.assertIs(in_span(size, at, first, last), at in span(size, first, last))

    def test_crossed(self):
        self.gives(True, crossed, (0, 2), (1, 3))
        self.gives(True, crossed, [2, 0], [1, 3])
        self.gives(True, crossed, (1, 3), (2, 0))
        self.gives(False, crossed, (0, 3), (1, 2))
        self.gives(False, crossed, (0, 1), (2, 3))
        self.gives(False, crossed, (0, 2), (2, 3))
        self.gives(False, crossed, (0, 2), (1, 2))
        self.gives(False, crossed, (0, 2), (1, 1))
        self.gives(False, crossed, (1, 1), (0, 2))
        self.gives(False, crossed, (1, 2), (0, 3))
        self.gives(True, crossed, one=(-5, 7), two=[100, 0])
        self.gives(True, crossed, (-HUGE, HUGE), (0, HUGE + 1))
        self.gives(False, crossed, (-HUGE, HUGE), (0, HUGE - 1))
        self.gives(False, crossed, (-HUGE, HUGE), (HUGE, 0))

    def test_crossed_by_its_words(self):
        for p, q, r, s in itertools.product(range(-1, 5), repeat=4):
            between = [number for number in (r, s) if min(p, q) < number < max(p, q)]
            expected = len({p, q, r, s}) == 4 and len(between) == 1
            self.assertIs(crossed((p, q), [r, s]), expected)


if __name__ == "__main__":
    unittest.main()
