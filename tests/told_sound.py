"""What holds in every run [16.2], told anew for the tests, word by word and slowly, from the properties of a system."""

from wholemoment.disk.log import read_log
from wholemoment.store.deeds import behind
from wholemoment.store.questions import plain_answer


def told_shown(system, cache, time):
    """[16.1]: the instants that a cache shows at a time."""
    rows = system.instants(cache)
    if rows[time] is None:
        return ()
    _, reading, count = rows[time]
    first = count
    if time > 0 and rows[time - 1] is not None and rows[time - 1][2] < count:
        first = rows[time - 1][2] + 1
    found = [(reading, k) for k in range(first, count + 1)]
    if time < len(system.events) and system.events[time][0] == "beat":
        found += [(reading + step, count) for step in range(1, system.events[time][1][cache])]
    return tuple(sorted(found))


def told_papers(system, answer):
    """All pairs (time, moment) at which the cache of an answer shows an instant that it tells, and whether it is right there."""
    _, _, _, cache, life, question, _, value, low, high = answer
    found = []
    for time, row in enumerate(system.instants(cache)):
        if row is None or row[0] != life:
            continue
        if any(low[0] <= x <= high[0] and low[1] <= k <= high[1] for x, k in told_shown(system, cache, time)):
            moment = system.moments[time]
            found.append((time, moment, plain_answer(question, behind(system.deeds[:moment])) == value))
    return found


def told_faults(system):
    """All faults, in the sequence of [16.2], numbers and keys ascending."""
    return (answer_faults(system) + copy_faults(system) + lent_faults(system) + disk_faults(system) + floor_faults(system)
            + once_faults(system))


def answer_faults(system):
    found = []
    for index, answer in enumerate(system.answers):
        event, _, _, cache, _, _, age, _, low, high = answer
        _, reading, count = system.instants(cache)[event]
        papers = told_papers(system, answer)
        in_time = high[0] <= reading and high[1] <= count and low[0] >= reading - age
        if not in_time or not papers or not all(right for _, _, right in papers):
            found.append(("answer", index))
    return found


def copy_faults(system):
    found = []
    for number, cache in sorted(system.caches.items()):
        for copy in cache.shelf.copies if cache is not None else ():
            rows = system.instants(number)
            for time, row in enumerate(rows):
                if row is not None and row[0] == rows[-1][0] and any(map(copy.does_cover, told_shown(system, number, time))):
                    if behind(system.deeds[:system.moments[time]]).get(copy.key) != copy.value:
                        found.append(("copy", number, copy.key))
                        break
    return found


def lent_faults(system):
    found = []
    for number, cache in sorted(system.caches.items()):
        for key in cache.shelf.true_keys(system.clocks[number]) if cache is not None else ():
            parent = system.setup.parents[number - 1]
            lender = system.caches[parent] if parent else system.origin
            if lender is None or lender.book.lent.get((number, key), (0, -1))[1] >= system.clocks[parent]:
                continue
            waits_to = lender.free_from if parent == 0 else lender.since
            if waits_to is None or system.clocks[parent] > waits_to + (system.setup.term if parent else 0):
                found.append(("lent", number, key))
    return found


def disk_faults(system):
    kept = read_log(system.disk.sure)
    origin = system.origin
    if system.deeds != kept.deeds:
        return [("disk",)]
    if origin is not None:
        kept = read_log(system.disk.blocks)
        if (origin.pairs, origin.numbers, origin.ceiling) != (kept.pairs, kept.numbers, kept.ceiling):
            return [("disk",)]
    return []


def floor_faults(system):
    found = []
    for reader in system.readers:
        lows = {}
        for answer in system.answers:
            if answer[1] == reader.number:
                lows.setdefault(answer[4], []).append(answer[8])
        now = system.instants(reader.place)[-1]
        rows = [row + ([reader.floor] if now is not None and life == now[0] else []) for life, row in lows.items()]
        if any(early[0] > late[0] or early[1] > late[1] for row in rows for early, late in zip(row, row[1:])):
            found.append(("floor", reader.number))
    return found


def once_faults(system):
    told = [record[1:3] for record in read_log(system.disk.sure).records]
    return [("once",) + pair for pair in sorted(set(told)) if told.count(pair) > 1]
