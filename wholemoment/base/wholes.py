"""Whole numbers as callers may pass them: neither True nor False, and not too long."""

from wholemoment.errors import InvalidNumber

MOST_WHOLE = 10 ** 60 - 1


def is_whole(value):
    """Whether the value is an integer of at most sixty digits."""
    if not isinstance(value, int) or isinstance(value, bool):
        return False
    return -MOST_WHOLE <= value <= MOST_WHOLE


def is_within(value, low, high=MOST_WHOLE):
    """Whether the value is an integer from low to high."""
    return is_whole(value) and low <= value <= high


def need_number(value, low=0, high=MOST_WHOLE):
    """Refuses all but the integers from low to high."""
    if not is_within(value, low, high):
        raise InvalidNumber(value)
