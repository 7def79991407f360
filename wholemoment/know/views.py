"""What a cache can know: its views, and the worlds that look the same to it."""

from wholemoment.base.wholes import is_within
from wholemoment.cache.copies import is_instant
from wholemoment.errors import InvalidView, InvalidWorld
from wholemoment.know.parting import parting_world
from wholemoment.know.worlds import (
    has_world_form, instants_of, keeps_each_lease, last_of, lease_end, standing,
)
from wholemoment.store.deeds import are_ascending, is_key, is_value_or_none
from wholemoment.time.clocks import MAX_SPREAD

MOST_EVENTS = 40
MOST_READING = 400
MOST_COPIES = 6
MOST_LEASES = 4

_MOST_LENGTH = 400
_MOST_AGE = 400


def is_view(value):
    """Whether the value is a view."""
    if not isinstance(value, tuple) or len(value) != 5:
        return False
    spread, readings, copies, age, floor = value
    if not is_within(spread, 1, MAX_SPREAD) or not _are_readings(readings):
        return False
    if not is_within(age, 0, _MOST_AGE) or not is_within(floor, 0, len(readings) - 1):
        return False
    if not isinstance(copies, tuple) or len(copies) > MOST_COPIES:
        return False
    if not all([_is_copy(spread, readings, copy) for copy in copies]):
        return False
    return are_ascending([copy[0] for copy in copies])


def told_stretch(view):
    """The pair of the low and the high of what stands in every world, None if there is no such stretch."""
    _need_view(view)
    return _stretch(view)


def is_world(view, value):
    """Whether the value is a world for the view."""
    _need_view(view)
    return _is_world(view, value)


def page_stands(view, world):
    """The first instant of the window at which the page of the copies stands in a world, or None."""
    _need_view(view)
    if not _is_world(view, world):
        raise InvalidWorld("a world fits its view: beats, grants and rows")
    return _first_stand(view, world)


def either(view):
    """("stands", low, high), the told stretch, or ("world", world) with one without the page in the window."""
    _need_view(view)
    told = _stretch(view)
    if told is not None:
        return ("stands", told[0], told[1])
    return ("world", parting_world(view, _low(view)))


def is_either(view, value):
    """Whether the value is a right one of both."""
    _need_view(view)
    if not isinstance(value, tuple) or not value or not isinstance(value[0], str):
        return False
    if value[0] == "stands":
        return len(value) == 3 and all([is_instant(end) for end in value[1:]]) and _stretch(view) == value[1:]
    if value[0] != "world" or len(value) != 2:
        return False
    return _is_world(view, value[1]) and _first_stand(view, value[1]) is None


def _need_view(view):
    if not is_view(view):
        raise InvalidView("a view is a spread, readings, copies, an age and a floor")


def _are_readings(value):
    if not isinstance(value, tuple) or not 1 <= len(value) <= MOST_EVENTS:
        return False
    if not all([is_within(reading, 0, MOST_READING) for reading in value]):
        return False
    return all([early <= late for early, late in zip(value, value[1:])])


def _is_copy(spread, readings, value):
    if not isinstance(value, tuple) or len(value) != 4:
        return False
    key, told, leases, gone = value
    if not is_key(key) or not is_value_or_none(told):
        return False
    if not isinstance(leases, tuple) or not 1 <= len(leases) <= MOST_LEASES:
        return False
    now = len(readings) - 1
    if not all([_is_lease(now, lease) for lease in leases]):
        return False
    if not are_ascending([came for _, came, _ in leases]):
        return False
    if gone is not None and not is_within(gone, leases[-1][1] + 1, now):
        return False
    return _come_in_time(spread, readings, leases)


def _is_lease(now, value):
    if not isinstance(value, tuple) or len(value) != 3:
        return False
    asked, came, length = value
    if not is_within(asked, 0, now) or not is_within(came, asked + 1, now):
        return False
    return is_within(length, 0, _MOST_LENGTH)


def _come_in_time(spread, readings, leases):
    """Whether each lease comes while it is not over itself, and while the copy is true that it makes longer."""
    for index, lease in enumerate(leases):
        came = readings[lease[1]]
        if came > lease_end(spread, readings, lease):
            return False
        if index > 0 and came > last_of(spread, readings, leases[:index]):
            return False
    return True


def _is_world(view, value):
    return has_world_form(view, value) and keeps_each_lease(view, value)


def _low(view):
    """The least reading and the least event of a told stretch."""
    _, readings, copies, age, floor = view
    event = max([floor] + [leases[0][1] for _, _, leases, _ in copies])
    return (max(readings[event], readings[-1] - age), event)


def _stretch(view):
    spread, readings, copies = view[:3]
    gones = [gone for _, _, _, gone in copies if gone is not None]
    lasts = [last_of(spread, readings, leases) for _, _, leases, _ in copies]
    low = _low(view)
    reading = min(lasts + [readings[gone] for gone in gones] + [readings[-1]])
    event = min([gone - 1 for gone in gones], default=len(readings) - 1)
    if low[0] > reading or low[1] > event:
        return None
    return (low, (reading, event))


def _first_stand(view, world):
    _, readings, copies, age, floor = view
    beats, _, rows = world
    instants = instants_of(readings, beats)
    stands = [standing(instants, copy[1], row) for copy, row in zip(copies, rows)]
    for index, (instant, _, shown) in enumerate(instants):
        if instant[0] >= floor and shown >= readings[-1] - age and all([row[index] for row in stands]):
            return instant
    return None
