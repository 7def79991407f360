"""Clocks that run unlike: courses of beats, and how long a lease is held."""

from wholemoment.base.wholes import is_within, need_number
from wholemoment.errors import InvalidCourse, InvalidOperation, TooMany

MAX_SPREAD = 6
MAX_MACHINES = 7
MAX_BEATS = 400

_MOST_TOLD = 400
_MOST_LENGTH = 399
_MOST_DEPTH = 6


def is_course(spread, machines, value):
    """Whether the value is a course."""
    need_spread(spread)
    need_number(machines, 1, MAX_MACHINES)
    return _is_course(spread, machines, value)


def readings(spread, machines, course):
    """The tuple of the readings behind a course."""
    need_spread(spread)
    need_number(machines, 1, MAX_MACHINES)
    _need_course(spread, machines, course)
    return _readings(machines, course)


def joined(spread, machines, first, last):
    """Both courses, one behind the other."""
    need_spread(spread)
    need_number(machines, 1, MAX_MACHINES)
    _need_course(spread, machines, first)
    _need_course(spread, machines, last)
    if len(first) + len(last) > MAX_BEATS:
        raise TooMany(MAX_BEATS)
    return first + last


def beats_for(spread, units):
    """The least and the greatest number of beats in which a clock goes just so many units."""
    need_spread(spread)
    need_number(units)
    return (_fewest(spread, units), units)


def reach(spread, units):
    """The least and the greatest number of units that another clock goes meanwhile."""
    need_spread(spread)
    need_number(units)
    return (_fewest(spread, units), spread * units)


def clock_paper(spread, told):
    """("course", course) that leads to the readings, or ("far", i, j) with two too far from one another."""
    need_spread(spread)
    _need_told(told)
    least, greatest = min(told), max(told)
    if greatest > spread * least:
        return ("far", told.index(greatest), told.index(least))
    rows = [_advances(spread, least, reading) for reading in told]
    return ("course", tuple([tuple([row[beat] for row in rows]) for beat in range(least)]))


def is_clock_paper(spread, told, value):
    """Whether the value is a paper on the readings."""
    need_spread(spread)
    _need_told(told)
    if not isinstance(value, tuple) or not value or not isinstance(value[0], str):
        return False
    if value[0] == "course" and len(value) == 2:
        course = value[1]
        return _is_course(spread, len(told), course) and _readings(len(told), course) == told
    if value[0] != "far" or len(value) != 3:
        return False
    if not all([is_within(index, 0, len(told) - 1) for index in value[1:]]):
        return False
    return told[value[1]] > spread * told[value[2]]


def fewest_beats(spread, told):
    """The fewest beats of a course that leads to the readings, None if none does."""
    need_spread(spread)
    _need_told(told)
    greatest = max(told)
    if greatest > spread * min(told):
        return None
    return _fewest(spread, greatest)


def held_for(spread, length):
    """For how many units a lease is held."""
    need_spread(spread)
    need_number(length)
    return length // spread


def held_below(spread, length, depth):
    """For how many units a lease is held that was lent on so many times at once."""
    need_spread(spread)
    need_number(length)
    need_number(depth, 0, _MOST_DEPTH)
    held = length
    for _ in range(depth):
        held = held // spread
    return held


def breaking_course(spread, length, mine):
    """Any course in which the borrower goes at most `mine` units and the lender more than `length`, or None."""
    _need_lease(spread, length, mine)
    beats = length // spread + 1
    if beats > mine:
        return None
    return ((1, spread),) * beats


def is_breaking_course(spread, length, mine, value):
    """Whether the value is such a course."""
    _need_lease(spread, length, mine)
    if not _is_course(spread, 2, value):
        return False
    borrower, lender = _readings(2, value)
    return borrower <= mine and lender > length


def need_spread(spread):
    """Refuses all but spreads."""
    need_number(spread, 1, MAX_SPREAD)


def _need_course(spread, machines, course):
    if not _is_course(spread, machines, course):
        raise InvalidCourse("a course is a tuple of at most 400 beats, each with an advance for each machine")


def _need_told(told):
    if not _is_row(told) or not 1 <= len(told) <= MAX_MACHINES:
        raise InvalidOperation("readings are a tuple of 1 to 7 integers from 0 to 400")


def _is_row(told):
    return isinstance(told, tuple) and all([is_within(reading, 0, _MOST_TOLD) for reading in told])


def _need_lease(spread, length, mine):
    need_spread(spread)
    need_number(length, 0, _MOST_LENGTH)
    need_number(mine, 0, _MOST_LENGTH)


def _is_course(spread, machines, value):
    if not isinstance(value, tuple) or len(value) > MAX_BEATS:
        return False
    return all([_is_beat(spread, machines, beat) for beat in value])


def _is_beat(spread, machines, value):
    if not isinstance(value, tuple) or len(value) != machines:
        return False
    return all([is_within(advance, 1, spread) for advance in value])


def _readings(machines, course):
    return tuple([sum([beat[machine] for beat in course]) for machine in range(machines)])


def _fewest(spread, units):
    """The fewest beats in which a clock goes so many units: the quotient, rounded up."""
    return (units + spread - 1) // spread


def _advances(spread, beats, reading):
    """Advances of one clock, which lead to a reading in so many beats."""
    more = reading - beats
    advances = []
    for _ in range(beats):
        step = min(more, spread - 1)
        advances.append(1 + step)
        more -= step
    return advances
