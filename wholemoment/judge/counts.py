"""Counts: how long a copy is held, how few asks cover the reads of a cache, and how long a deed waits."""

from wholemoment.base.wholes import is_within, need_number
from wholemoment.errors import InvalidOperation
from wholemoment.store.deeds import are_ascending, is_key
from wholemoment.time.clocks import held_below, need_spread

MAX_READS = 60

_MOST_TERM = 200
_MOST_DEPTH = 6
_MOST_KEYS = 6
_MOST_ASKS = 400
_MOST_ENDS = 240


def held_at(spread, term, depth):
    """How many units the cache at a depth holds what was lent on at once along its path."""
    need_spread(spread)
    need_number(term, 1, _MOST_TERM)
    need_number(depth, 1, _MOST_DEPTH)
    return held_below(spread, term, depth)


def greatest_depth(spread, term):
    """The greatest depth at which a copy is held for at least one unit, None if there is none."""
    need_spread(spread)
    need_number(term, 1, _MOST_TERM)
    if spread == 1:
        return None
    depth = 0
    held = term
    while held >= spread:
        held //= spread
        depth += 1
    return depth


def least_term(spread, depth, units):
    """The least term with which the cache at a depth holds a copy for so many units."""
    need_spread(spread)
    need_number(depth, 1, _MOST_DEPTH)
    need_number(units, 1, _MOST_TERM)
    term = units
    for _ in range(depth):
        term *= spread
    return term


def asks_of(held, reads):
    """The asks of a cache that asks for a key when the last ask does not cover its read."""
    _need_reads(held, reads)
    return _asks(held, reads)


def fewest_asks(held, reads):
    """How many asks cover the reads, and no fewer do."""
    _need_reads(held, reads)
    return len(_asks(held, reads))


def do_cover(held, reads, value):
    """Whether the value is asks that cover the reads."""
    _need_reads(held, reads)
    return _are_of_reads(reads, value) and _is_covered(held, reads, value)


def are_apart(held, reads, value):
    """Whether the value is a row of marks, any two of one key further apart than one ask covers."""
    _need_reads(held, reads)
    return _are_of_reads(reads, value) and _are_far(held, value)


def asks_or_marks(held, reads, number):
    """("asks", asks) with at most so many asks that cover the reads, or ("marks", marks) with more marks."""
    _need_reads(held, reads)
    need_number(number, 0, _MOST_ASKS)
    asks = _asks(held, reads)
    # Two asks of one key that both are needed are too far apart for one: so they are marks, too.
    return ("asks", asks) if len(asks) <= number else ("marks", asks)


def is_asks_or_marks(held, reads, number, value):
    """Whether the value is such a paper."""
    _need_reads(held, reads)
    need_number(number, 0, _MOST_ASKS)
    if not isinstance(value, tuple) or len(value) != 2 or not isinstance(value[0], str):
        return False
    word, row = value
    if not _are_of_reads(reads, row):
        return False
    if word == "asks":
        return len(row) <= number and _is_covered(held, reads, row)
    return word == "marks" and len(row) > number and _are_far(held, row)


def put_at(ends, reading, ceiling=None):
    """The reading from which on a deed is put that waits for the ends of its keys, and for a ceiling."""
    if not isinstance(ends, tuple) or len(ends) > _MOST_ENDS or not all([is_within(end, 0) for end in ends]):
        raise InvalidOperation("ends are a tuple of at most 240 readings")
    need_number(reading)
    if ceiling is not None:
        need_number(ceiling)
    waits = ends if ceiling is None else ends + (ceiling,)
    return max([reading] + [end + 1 for end in waits])


def _need_reads(held, reads):
    need_number(held, 0, _MOST_TERM)
    if not isinstance(reads, tuple) or len(reads) > MAX_READS or not all([_is_read(read) for read in reads]):
        raise InvalidOperation("reads are a tuple of at most 60 pairs of a reading and keys")
    if any([late[0] < early[0] for early, late in zip(reads, reads[1:])]):
        raise InvalidOperation("the readings of reads do not descend")


def _is_read(value):
    if not isinstance(value, tuple) or len(value) != 2 or not is_within(value[0], 0):
        return False
    keys = value[1]
    if not isinstance(keys, tuple) or not 1 <= len(keys) <= _MOST_KEYS:
        return False
    return all([is_key(key) for key in keys]) and are_ascending(keys)


def _asks(held, reads):
    last = {}
    asks = []
    for reading, keys in reads:
        for key in keys:
            if key not in last or reading > last[key] + held:
                last[key] = reading
                asks.append((reading, key))
    return tuple(sorted(asks))


def _are_of_reads(reads, value):
    """Whether the value is an ascending tuple of pairs (reading, key), each of a read that has this key."""
    if not isinstance(value, tuple) or not all([_is_mark(mark) for mark in value]):
        return False
    told = {(reading, key): True for reading, keys in reads for key in keys}
    return all([mark in told for mark in value]) and are_ascending(value)


def _is_mark(value):
    return isinstance(value, tuple) and len(value) == 2 and is_within(value[0], 0) and is_key(value[1])


def _is_covered(held, reads, asks):
    for reading, keys in reads:
        near = {key: True for early, key in asks if early <= reading <= early + held}
        if not all([key in near for key in keys]):
            return False
    return True


def _are_far(held, marks):
    """Whether those of one key are further apart than what is held; marks ascend."""
    last = {}
    for reading, key in marks:
        if key in last and reading <= last[key] + held:
            return False
        last[key] = reading
    return True
