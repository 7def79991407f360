"""Worlds for a view: their instants, and what stands at each of them."""

from wholemoment.base.wholes import is_within
from wholemoment.store.deeds import are_ascending, is_value_or_none


def lease_end(spread, readings, lease):
    """The reading up to which a lease is held."""
    return readings[lease[0]] + lease[2] // spread


def last_of(spread, readings, leases):
    """The greatest end of some leases."""
    return max([lease_end(spread, readings, lease) for lease in leases])


def has_world_form(view, value):
    """Whether the value has beats, grants and rows that fit a view, whatever stands when."""
    if not isinstance(value, tuple) or len(value) != 3:
        return False
    spread, readings, copies = view[:3]
    beats, grants, rows = value
    if not _are_beats(spread, readings, beats):
        return False
    if not isinstance(grants, tuple) or not isinstance(rows, tuple):
        return False
    if len(grants) != len(copies) or len(rows) != len(copies):
        return False
    fit = [_are_grants(beats, copy[2], granted) for copy, granted in zip(copies, grants)]
    return all(fit) and all([_is_row(beats, row) for row in rows])


def keeps_each_lease(view, world):
    """Whether each key has its copy's value at each grant, and keeps it as long as the lease is not over."""
    beats, grants, rows = world
    instants = instants_of(view[1], beats)
    return all([_keeps(instants, copy, granted, row) for copy, granted, row in zip(view[2], grants, rows)])


def instants_of(readings, beats):
    """For each instant: itself, what the parent's clock reads, and the greatest reading that it shows."""
    found = []
    theirs = 0
    for event, reading in enumerate(readings):
        row = beats[event] if event < len(beats) else ()
        mine = reading
        for k, (step, other) in enumerate(row):
            found.append(((event, k), theirs, mine + step - 1))
            mine += step
            theirs += other
        found.append(((event, len(row)), theirs, mine))
    return found


def standing(instants, value, row):
    """For each instant, whether a key with such a row has the value and does not change there."""
    return [has == value and not changes for has, changes in _states(instants, row)]


def _states(instants, row):
    """For each instant, the value that a key has there, behind a change, and whether it changes there."""
    changes = {instant: told for instant, told in row[1]}
    has = row[0]
    states = []
    for instant, _, _ in instants:
        has = changes.get(instant, has)
        states.append((has, instant in changes))
    return states


def _keeps(instants, copy, granted, row):
    value, leases, gone = copy[1:]
    # What is lent now: what the parent's clock read at the grant, and the length.
    lent = []
    for (instant, theirs, _), (has, changes) in zip(instants, _states(instants, row)):
        if gone is not None and instant >= (gone, 0):
            return True
        if has != value or changes:
            if any([theirs - start <= length for start, length in lent]):
                return False
        for lease, told in zip(leases, granted):
            if told == instant:
                if has != value:
                    return False
                lent.append((theirs, lease[2]))
    return True


def _are_beats(spread, readings, value):
    if not isinstance(value, tuple) or len(value) != len(readings) - 1:
        return False
    for row, early, late in zip(value, readings, readings[1:]):
        if not isinstance(row, tuple) or not all([_is_beat(spread, beat) for beat in row]):
            return False
        if sum([mine for mine, _ in row]) != late - early:
            return False
    return True


def _is_beat(spread, value):
    if not isinstance(value, tuple) or len(value) != 2:
        return False
    return is_within(value[0], 1, spread) and is_within(value[1], 1, spread)


def _are_grants(beats, leases, value):
    if not isinstance(value, tuple) or len(value) != len(leases):
        return False
    if not all([_is_instant(beats, instant) for instant in value]):
        return False
    return all([(asked, 0) <= told < (came, 0) for (asked, came, _), told in zip(leases, value)])


def _is_instant(beats, value):
    """Whether the value is an instant of a world with the beats."""
    if not isinstance(value, tuple) or len(value) != 2 or not is_within(value[0], 0, len(beats)):
        return False
    row = beats[value[0]] if value[0] < len(beats) else ()
    return is_within(value[1], 0, len(row))


def _is_row(beats, value):
    if not isinstance(value, tuple) or len(value) != 2:
        return False
    first, changes = value
    if not is_value_or_none(first) or not isinstance(changes, tuple):
        return False
    if not all([_is_change(beats, change) for change in changes]):
        return False
    values = [first] + [told for _, told in changes]
    if not all([early != late for early, late in zip(values, values[1:])]):
        return False
    return are_ascending([instant for instant, _ in changes])


def _is_change(beats, value):
    if not isinstance(value, tuple) or len(value) != 2:
        return False
    return _is_instant(beats, value[0]) and is_value_or_none(value[1])
