"""Checks of numbers against their limits."""

from hedgejoin.errors import OutOfRange, TooMany


def check_range(value, limit):
    """Raise OutOfRange unless the value is from 0 to less than the limit."""
    if value < 0 or value >= limit:
        raise OutOfRange(value, limit)


def check_most(count, limit):
    """Raise TooMany if the count is greater than the limit."""
    if count > limit:
        raise TooMany(count, limit)
