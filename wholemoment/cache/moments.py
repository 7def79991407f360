"""The instants at which all copies of a page stood together."""

from wholemoment.base.wholes import is_within, need_number
from wholemoment.cache.copies import are_copies, need_instant
from wholemoment.errors import InvalidCopy, InvalidOperation

_MOST_COPIES = 40
_MOST_AGE = 10 ** 6


def stretch(copies, instant):
    """The common stretch of copies at an instant, None if there is none."""
    _need_copies(copies)
    need_instant(instant)
    _need_all_past(copies, instant)
    return _stretch_of(_bounds(copies, instant))


def apart(copies, instant):
    """Any pair (i, j) of indices such that copy i ends ahead of copy j, None if there is none."""
    _need_copies(copies)
    need_instant(instant)
    _need_all_past(copies, instant)
    return _first_apart(copies)


def is_apart(copies, instant, value):
    """Whether the value is such a pair."""
    _need_copies(copies)
    need_instant(instant)
    _need_all_past(copies, instant)
    return isinstance(value, tuple) and len(value) == 2 and _are_apart(copies, value)


def answer_stretch(copies, instant, age, floor):
    """The answer's stretch, None if there is none."""
    _need_window(copies, instant, age, floor)
    return _stretch_of(_answer_bounds(copies, instant, age, floor))


def refusal_paper(copies, instant, age, floor):
    """Why there is no answer's stretch, None if there is one."""
    _need_window(copies, instant, age, floor)
    if _is_behind(instant, floor):
        return ("behind",)
    pair = _first_apart(copies)
    if pair is not None:
        return ("apart", pair[0], pair[1])
    low = _answer_bounds(copies, instant, age, floor)[0]
    for index, copy in enumerate(copies):
        if _is_old(copy, low, floor):
            return ("old", index)
    return None


def is_refusal_paper(copies, instant, age, floor, value):
    """Whether the value is a right paper on why there is no answer's stretch."""
    _need_window(copies, instant, age, floor)
    if not isinstance(value, tuple) or not value or not isinstance(value[0], str):
        return False
    word, indices = value[0], value[1:]
    if word == "behind":
        return not indices and _is_behind(instant, floor)
    if word == "apart":
        return len(indices) == 2 and _are_apart(copies, indices)
    if word != "old" or len(indices) != 1 or not _are_indices(copies, indices):
        return False
    low = _answer_bounds(copies, instant, age, floor)[0]
    return _is_old(copies[indices[0]], low, floor)


def joined_floor(floor, other):
    """The instant with the greater reading and the greater count of both."""
    need_instant(floor)
    need_instant(other)
    return (max(floor[0], other[0]), max(floor[1], other[1]))


def is_in_stretch(low, high, instant):
    """Whether an instant has a reading and a count from those of low to those of high."""
    need_instant(low)
    need_instant(high)
    need_instant(instant)
    return low[0] <= instant[0] <= high[0] and low[1] <= instant[1] <= high[1]


def _need_copies(copies):
    if not are_copies(copies) or len(copies) > _MOST_COPIES:
        raise InvalidCopy("copies are a tuple of at most 40 copies")
    if len(set([copy.key for copy in copies])) < len(copies):
        raise InvalidCopy("copies have unlike keys")


def _need_all_past(copies, instant):
    for copy in copies:
        if not _is_past(copy.begin, instant) or (copy.gone is not None and not _is_past(copy.gone, instant)):
            raise InvalidOperation("a copy begins or is gone behind the instant of now")


def _is_past(early, instant):
    return early[0] <= instant[0] and early[1] <= instant[1]


def _need_window(copies, instant, age, floor):
    _need_copies(copies)
    need_instant(instant)
    need_number(age, 0, _MOST_AGE)
    need_instant(floor)
    _need_all_past(copies, instant)


def _bounds(copies, instant):
    """The least reading and count, and the greatest reading and count, of the common stretch (y, c, x, d)."""
    gones = [copy.gone for copy in copies if copy.gone is not None]
    least_reading = max([copy.begin[0] for copy in copies], default=0)
    least_count = max([copy.begin[1] for copy in copies], default=0)
    most_reading = min([instant[0]] + [copy.last for copy in copies] + [gone[0] for gone in gones])
    most_count = min([gone[1] - 1 for gone in gones], default=instant[1])
    return (least_reading, least_count, most_reading, most_count)


def _answer_bounds(copies, instant, age, floor):
    """Those of the answer's stretch."""
    reading, count, most_reading, most_count = _bounds(copies, instant)
    return (max(reading, instant[0] - age, floor[0]), max(count, floor[1]), most_reading, most_count)


def _stretch_of(bounds):
    reading, count, most_reading, most_count = bounds
    if reading > most_reading or count > most_count:
        return None
    return ((reading, count), (most_reading, most_count))


def _ends_ahead(copy, other):
    """Whether a copy ends ahead of another one."""
    if copy.last < other.begin[0]:
        return True
    return copy.gone is not None and (copy.gone[0] < other.begin[0] or copy.gone[1] <= other.begin[1])


def _first_apart(copies):
    for i, copy in enumerate(copies):
        for j, other in enumerate(copies):
            if _ends_ahead(copy, other):
                return (i, j)
    return None


def _are_apart(copies, indices):
    return _are_indices(copies, indices) and _ends_ahead(copies[indices[0]], copies[indices[1]])


def _are_indices(copies, indices):
    return all([is_within(index, 0, len(copies) - 1) for index in indices])


def _is_old(copy, low, floor):
    """Whether a copy ends ahead of the least reading of a window, or is gone ahead of its floor."""
    if copy.last < low:
        return True
    return copy.gone is not None and (copy.gone[0] < low or copy.gone[1] <= floor[1])


def _is_behind(instant, floor):
    """Whether a floor is behind the instant of now."""
    return floor[0] > instant[0] or floor[1] > instant[1]
