"""The forms of questions: their sizes and their keys."""

from wholemoment.base.wholes import is_within
from wholemoment.store.deeds import MOST_VALUE, are_ascending, is_key

SIDES = {
    "plus": 2, "minus": 2, "times": 2, "least": 2, "most": 2,
    "less": 2, "same": 2, "both": 2, "any": 2, "if": 3,
}


def clamped(number):
    """The number nearest to an integer."""
    return max(-MOST_VALUE, min(MOST_VALUE, number))


def size_within(value, room):
    """The size of a question; None for all else, and for a question with more than the room.

    The room ends the search also in values in which one part stands again and again.
    """
    if not isinstance(value, tuple) or not value or not isinstance(value[0], str):
        return None
    if value[0] in SIDES:
        size = _size_of_sides(value, room)
    else:
        size = _size_of_leaf(value)
    return None if size is None or size > room else size


def _size_of_sides(value, room):
    if len(value) != SIDES[value[0]] + 1:
        return None
    size = 1
    for part in value[1:]:
        inner = size_within(part, room - size)
        if inner is None:
            return None
        size += inner
    return size


def _size_of_leaf(value):
    if len(value) != 2:
        return None
    word, told = value
    if word == "number":
        return 1 if is_within(told, -MOST_VALUE, MOST_VALUE) else None
    if word in ("key", "there"):
        return 1 if is_key(told) else None
    if word in ("sum", "many"):
        return 1 + len(told) if _is_row_of_keys(told) else None
    return None


def _is_row_of_keys(value):
    if not isinstance(value, tuple) or not value or not all([is_key(key) for key in value]):
        return False
    return are_ascending(value)


def keys_in(question):
    """The ascending tuple of the keys of a question."""
    return tuple(sorted(set(key_places(question))))


def key_places(question):
    """The keys of a question, as often as they stand in it."""
    word = question[0]
    if word in SIDES:
        places = []
        for part in question[1:]:
            places.extend(key_places(part))
        return places
    if word == "number":
        return []
    return [question[1]] if word in ("key", "there") else list(question[1])
