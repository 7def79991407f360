"""Views and worlds, told anew for the tests: what they are, and drawn ones."""

from helpers import is_int


def is_key(value):
    return type(value) is str and 1 <= len(value) <= 8 and set(value) <= set("abcdefghijklmnopqrstuvwxyz")


def is_told(value):
    return value is None or is_int(value, -(10 ** 12 - 1), 10 ** 12 - 1)


def is_row(value, size=None):
    return type(value) is tuple and (size is None or len(value) == size)


def ends(view, copy):
    return [view[1][asked] + length // view[0] for asked, _, length in copy[2]]


def is_view(value):
    if not is_row(value, 5):
        return False
    spread, readings, copies, age, floor = value
    if not is_int(spread, 1, 6) or not is_row(readings) or not 1 <= len(readings) <= 40:
        return False
    if not all(is_int(reading, 0, 400) for reading in readings) or list(readings) != sorted(readings):
        return False
    if not is_int(age, 0, 400) or not is_int(floor, 0, len(readings) - 1) or not is_row(copies) or len(copies) > 6:
        return False
    if not all(is_copy(spread, readings, copy) for copy in copies):
        return False
    keys = [copy[0] for copy in copies]
    return keys == sorted(set(keys))


def is_copy(spread, readings, copy):
    if not is_row(copy, 4) or not is_key(copy[0]) or not is_told(copy[1]) or not is_row(copy[2]):
        return False
    if not 1 <= len(copy[2]) <= 4:
        return False
    held, before = None, -1
    for lease in copy[2]:
        if not is_row(lease, 3) or not all(is_int(member, 0, 400) for member in lease):
            return False
        asked, came, length = lease
        if asked >= came or came <= before or came >= len(readings):
            return False
        end = readings[asked] + length // spread
        if readings[came] > (end if held is None else min(end, held)):
            return False
        held, before = max(end, held or 0), came
    return copy[3] is None or is_int(copy[3], before + 1, len(readings) - 1)


def timeline(view, beats):
    """For each instant, ascending: (instant, least and greatest reading that it shows, the parent's clock)."""
    found, theirs = [], 0
    for event, reading in enumerate(view[1]):
        row = beats[event] if event < len(beats) else ()
        mine = reading
        for k in range(len(row) + 1):
            step = row[k][0] if k < len(row) else 1
            found.append(((event, k), mine, mine + step - 1, theirs))
            if k < len(row):
                mine, theirs = mine + step, theirs + row[k][1]
    return found


def value_at(row, instant):
    """The value behind a change at the instant."""
    told = row[0]
    for at, value in row[1]:
        if at <= instant:
            told = value
    return told


def stands(row, value, instant):
    return value_at(row, instant) == value and instant not in [at for at, _ in row[1]]


def is_beat_row(spread, units, row):
    if not is_row(row):
        return False
    if not all(is_row(beat, 2) and is_int(beat[0], 1, spread) and is_int(beat[1], 1, spread) for beat in row):
        return False
    return sum(beat[0] for beat in row) == units


def is_world(view, value):
    spread, readings, copies = view[:3]
    if not is_row(value, 3) or not is_row(value[0], len(readings) - 1):
        return False
    units = [late - early for early, late in zip(readings, readings[1:])]
    if not all(is_beat_row(spread, told, row) for told, row in zip(units, value[0])):
        return False
    if not is_row(value[1], len(copies)) or not is_row(value[2], len(copies)):
        return False
    line = timeline(view, value[0])
    return all(is_of_copy(copy, line, granted, row) for copy, granted, row in zip(copies, value[1], value[2]))


def is_of_copy(copy, line, granted, row):
    _, value, leases, gone = copy
    theirs = {instant: clock for instant, _, _, clock in line}
    if not is_row(granted, len(leases)) or not is_row(row, 2) or not is_told(row[0]) or not is_row(row[1]):
        return False
    if not all(is_row(change, 2) and is_one_of(change[0], theirs) and is_told(change[1]) for change in row[1]):
        return False
    told = [row[0]] + [change[1] for change in row[1]]
    instants = [change[0] for change in row[1]]
    if instants != sorted(set(instants)) or any(early == late for early, late in zip(told, told[1:])):
        return False
    for (asked, came, length), start in zip(leases, granted):
        if not is_one_of(start, theirs) or start < (asked, 0) or start >= (came, 0) or value_at(row, start) != value:
            return False
        for instant in theirs:
            lent = instant > start and theirs[instant] - theirs[start] <= length
            if lent and (gone is None or instant < (gone, 0)) and not stands(row, value, instant):
                return False
    return True


def is_one_of(value, theirs):
    return is_row(value, 2) and all(type(member) is int for member in value) and value in theirs


def window(view, line):
    """The instants of the window."""
    _, readings, _, age, floor = view
    return [instant for instant, _, shown, _ in line if instant[0] >= floor and shown >= readings[-1] - age]


def page_stands(view, world):
    """The first instant of the window at which the page stands, or None."""
    for instant in window(view, timeline(view, world[0])):
        if all(stands(row, copy[1], instant) for copy, row in zip(view[2], world[2])):
            return instant
    return None


def told_stretch(view):
    spread, readings, copies, age, floor = view
    events = [floor] + [copy[2][0][1] for copy in copies]
    low = (max([readings[event] for event in events] + [readings[-1] - age]), max(events))
    gones = [copy[3] for copy in copies if copy[3] is not None]
    high = (min([max(ends(view, copy)) for copy in copies] + [readings[gone] for gone in gones] + [readings[-1]]),
            min(gones) - 1 if gones else len(readings) - 1)
    return (low, high) if low[0] <= high[0] and low[1] <= high[1] else None


def draw_copy(rng, spread, readings, key):
    now = len(readings) - 1
    if now == 0:
        return None
    leases, last = [], None
    for came in sorted(rng.sample(range(1, now + 1), rng.randrange(1, min(now, 4) + 1))):
        asked = rng.randrange(max(0, came - 3), came)
        least = (readings[came] - readings[asked]) * spread
        length = least + rng.choice((0, 0, 1, spread, rng.randrange(15)))
        if length > 400 or (last is not None and readings[came] > last):
            break
        end = readings[asked] + length // spread
        leases.append((asked, came, length))
        last = end if last is None else max(last, end)
    if not leases:
        return None
    gone = None
    if leases[-1][1] < now and rng.random() < 0.4:
        gone = rng.randrange(leases[-1][1] + 1, now + 1)
    return (key, rng.choice((None, 0, 5)), tuple(leases), gone)


def draw_view(rng):
    spread, readings = rng.randrange(1, 4), [rng.randrange(4)]
    for _ in range(rng.randrange(9)):
        readings.append(readings[-1] + rng.choice((0, 0, 1, 2, 3)))
    copies = [draw_copy(rng, spread, readings, key) for key in sorted(rng.sample("abcdef", rng.randrange(4)))]
    return (spread, tuple(readings), tuple(copy for copy in copies if copy), rng.choice((0, 1, 3, 9, 400)),
            rng.randrange(len(readings)) if rng.random() < 0.5 else 0)


def draw_beats(rng, spread, units):
    row = []
    while units > 0:
        step = rng.randrange(1, min(spread, units) + 1)
        row.append((step, rng.randrange(1, spread + 1)))
        units -= step
    return tuple(row)


def draw_world(rng, view):
    spread, readings, copies = view[:3]
    beats = tuple(draw_beats(rng, spread, late - early) for early, late in zip(readings, readings[1:]))
    line = timeline(view, beats)
    grants, rows = [], []
    for _, value, leases, gone in copies:
        granted = tuple(rng.choice([instant for instant, _, _, _ in line if (asked, 0) <= instant < (came, 0)])
                        for asked, came, _ in leases)
        grants.append(granted)
        rows.append(draw_row(rng, line, value, tuple(zip(granted, [length for _, _, length in leases])), gone))
    return (beats, tuple(grants), tuple(rows))


def draw_row(rng, line, value, lent, gone):
    theirs = {instant: clock for instant, _, _, clock in line}
    first = has = rng.choice((value, None, 0, 7))
    changes = []
    for instant in theirs:
        held = any(start < instant and theirs[instant] - theirs[start] <= length for start, length in lent)
        if held and (gone is None or instant < (gone, 0)):
            continue
        told = rng.choice((value, None, 0, 7)) if rng.random() < 0.5 else has
        if instant in [start for start, _ in lent]:
            told = value
        if told != has:
            changes.append((instant, told))
            has = told
    return (first, tuple(changes))
