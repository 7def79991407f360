"""The times of a system: which instants a cache shows at each, and what stood in the store then."""

from wholemoment.store.deeds import done_on


def bounds_at(rows, time):
    """What a cache that is up shows at a time, as (reading, first, count, last).

    The rows are its instants. It shows the counts from first to count at the reading, and the count
    with the further readings up to last, which the next beat passes.
    """
    _, reading, count = rows[time]
    first = count
    if time > 0 and rows[time - 1] is not None:
        first = min(rows[time - 1][2] + 1, count)
    last = reading
    # Its clock goes on in a beat alone; a cache that falls next shows nothing more.
    if time + 1 < len(rows) and rows[time + 1] is not None:
        last = max(reading, rows[time + 1][1] - 1)
    return (reading, first, count, last)


def times_showing(rows, life, low, high):
    """The ascending list of the times of a life at which a cache shows an instant from low to high."""
    found = []
    for time, row in enumerate(rows):
        if row is None or row[0] != life or row[1] > high[0] or row[2] < low[1]:
            continue
        reading, first, count, last = bounds_at(rows, time)
        does_stand = low[0] <= reading and max(low[1], first) <= min(high[1], count)
        does_pass = max(low[0], reading) <= min(high[0], last) and count <= high[1]
        if does_stand or does_pass:
            found.append(time)
    return found


def states_of(deeds):
    """The pairs at each moment of a history."""
    states = [{}]
    for deed in deeds:
        states.append(done_on(states[-1], (deed,)))
    return states
