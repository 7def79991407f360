"""The world in which a page without a told stretch stands at no instant of the window."""

from wholemoment.know.worlds import last_of


def parting_world(view, low):
    """A world in which one copy ends ahead of the low (reading, count) of a stretch that there is not.

    All beats are slow for the cache and fast for its parent: so each instant shows one reading, and
    each lease that was granted when it was asked for is over at the parent one unit behind its end.
    """
    spread, readings, copies = view[:3]
    beats = tuple([((1, spread),) * (late - early) for early, late in zip(readings, readings[1:])])
    index, end = _first_end(view, low)
    grants, rows = [], []
    for at, (_, value, leases, _) in enumerate(copies):
        granted = [(asked, 0) for asked, _, _ in leases]
        row = (value, ())
        if at == index:
            row = (value, ((end, _other(value)),))
        elif (leases[0][1], 0) >= end:
            # It begins behind the end: up to just ahead of its coming its key can have another value.
            granted = [(came - 1, len(beats[came - 1])) for _, came, _ in leases]
            row = (_other(value), ((granted[0], value),))
        grants.append(tuple(granted))
        rows.append(row)
    return (beats, tuple(grants), tuple(rows))


def _first_end(view, low):
    """The index of the first copy that ends ahead of the low, and the instant at which its key can change."""
    spread, readings, copies = view[:3]
    reading, count = low
    for index, (_, _, leases, gone) in enumerate(copies):
        last = last_of(spread, readings, leases)
        if last < reading:
            return (index, _first_above(readings, last))
        if gone is not None and (gone <= count or readings[gone] < reading):
            return (index, (gone, 0))
    return None


def _first_above(readings, last):
    """The first instant that reads more than the last, where each beat is one unit."""
    event = len([reading for reading in readings if reading <= last]) - 1
    return (event, last + 1 - readings[event])


def _other(value):
    return 0 if value is None else None
