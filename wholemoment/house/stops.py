"""Stops: what a desk is told to halt at."""

from wholemoment.base.wholes import is_within
from wholemoment.store.deeds import is_key, is_value_or_none

_SIZES = {"answers": 3, "writes": 3, "moment": 2, "value": 3, "copy": 3, "down": 2}


def is_stop_of(setup, value):
    """Whether the value is a stop with readers and machines of a setup."""
    if not isinstance(value, tuple) or not value or not isinstance(value[0], str):
        return False
    word = value[0]
    if word not in _SIZES or len(value) != _SIZES[word]:
        return False
    if word in ("answers", "writes"):
        return is_within(value[1], 0, len(setup.readers) - 1) and is_within(value[2], 1)
    if word == "moment":
        return is_within(value[1], 0)
    if word == "value":
        return is_key(value[1]) and is_value_or_none(value[2])
    if word == "copy":
        return is_within(value[1], 1, setup.caches) and is_key(value[2])
    return is_within(value[1], 0, setup.machines - 1)


def is_so(system, stop):
    """Whether what a stop tells is so behind the last event of a system."""
    word = stop[0]
    if word == "answers":
        return len([answer for answer in system.answers if answer[1] == stop[1]]) >= stop[2]
    if word == "writes":
        reader = system.readers[stop[1]]
        return reader.write_number - (0 if reader.open_write is None else 1) >= stop[2]
    if word == "moment":
        return len(system.deeds) >= stop[1]
    if word == "value":
        return _last_value(system.deeds, stop[1]) == stop[2]
    if word == "copy":
        return _has_true_copy(system, stop[1], stop[2])
    return (system.origin if stop[1] == 0 else system.caches[stop[1]]) is None


def does_meet(early, late, stop):
    """Whether a stop meets at the event that leads from a system to the next one."""
    # Where nothing came these cannot meet: so a long run need not be gone through at each event.
    if stop[0] == "answers" and len(early.answers) == len(late.answers):
        return False
    if stop[0] == "value" and len(early.deeds) == len(late.deeds):
        return False
    return is_so(late, stop) and not is_so(early, stop)


def _last_value(deeds, key):
    """The value of a key at the last moment, None if it has none."""
    for deed in reversed(deeds):
        for changed, value in deed:
            if changed == key:
                return value
    return None


def _has_true_copy(system, number, key):
    cache = system.caches[number]
    return cache is not None and key in cache.shelf.true_keys(system.clocks[number])
