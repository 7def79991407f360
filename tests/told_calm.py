"""Calms, stage 17, told anew for the tests."""

from wholemoment.disk.log import read_log


def down(system):
    return ([0] if system.origin is None else []) + [number for number in system.caches if system.caches[number] is None]


def openings(system):
    """The rises and the hands of [17.2]."""
    hands = []
    for reader in system.readers:
        if reader.open_write is not None:
            letter = ("deed", reader.number) + reader.open_write
            hands.append(("hand", min(n for n, told in enumerate(system.bag.letters) if told == letter)))
    return [("rise", machine) for machine in down(system)], hands


def is_open(system):
    return any(reader.open_read is not None or reader.open_write is not None for reader in system.readers)


def beat_of(system):
    return ("beat", (1,) * len(system.clocks))


def told_calm(system):
    """The calm [17.2], event by event."""
    rises, hands = openings(system)
    row, ahead = rises + hands, len(system.bag)
    system = system.run(tuple(row))
    while is_open(system):
        row.append(beat_of(system))
        row += [("look", machine) for machine in range(len(system.clocks))]
        system = system.run(tuple(row[-len(system.clocks) - 1:]))
        while True:
            handed = {event[1] for event in row[len(rises) + len(hands):] if event[0] == "hand"}
            new = [n for n in range(ahead, len(system.bag)) if n not in handed]
            if system.origin.held:
                row.append(("sync",))
            elif new:
                row.append(("hand", new[0]))
            else:
                break
            system = system.done(row[-1])
    return tuple(row)


def told_most_rounds(system):
    depths = []
    for cache in range(1, len(system.clocks)):
        depth, at = 0, cache
        while at:
            depth, at = depth + 1, system.setup.parents[at - 1]
        depths.append(depth)
    free_from = read_log(system.disk.sure).ceiling if system.origin is None else system.origin.free_from
    above = 0 if free_from is None else free_from - system.clocks[0]
    return max(system.setup.term, above) + 2 + max(depths) * (system.setup.patience - 1)


def told_rounds(system, row):
    """How many rounds a quiet row of events has, None if it is none [17.5]."""
    rises, hands = openings(system)
    first, second = list(row[:len(rises)]), list(row[len(rises):len(rises) + len(hands)])
    if sorted(first) != rises or sorted(second) != sorted(hands) or len(system) + len(row) > 1500:
        return None
    ahead, rounds, handed, looked = len(system.bag), 0, set(), None
    system = system.run(tuple(first + second))
    for event in row[len(rises) + len(hands):]:
        new = set(range(ahead, len(system.bag))) - handed
        if event[0] == "beat":
            if event != beat_of(system) or looked is not None and not is_over(system, looked, new):
                return None
            rounds, looked = rounds + 1, set()
        elif looked is None or event[0] not in ("look", "sync", "hand") or event[0] == "hand" and event[1] not in new:
            return None
        elif event[0] == "look":
            looked.add(event[1])
        elif event[0] == "hand":
            handed.add(event[1])
        system = system.done(event)
    new = set(range(ahead, len(system.bag))) - handed
    return rounds if looked is None or is_over(system, looked, new) else None


def is_over(system, looked, new):
    return len(looked) == len(system.clocks) and not system.origin.held and not new


def some_quiet_row(rng, system, rounds):
    """A drawn quiet row with so many rounds, and the system behind it."""
    rises, hands = openings(system)
    rng.shuffle(rises)
    rng.shuffle(hands)
    row, ahead, handed = rises + hands, len(system.bag), set()
    system = system.run(tuple(row))
    for _ in range(rounds):
        row.append(beat_of(system))
        system = system.done(row[-1])
        looks = list(range(len(system.clocks)))
        rng.shuffle(looks)
        while True:
            new = sorted(set(range(ahead, len(system.bag))) - handed)
            can = [("look", looks[-1])] if looks else []
            can += [("sync",)] if system.origin.held or rng.random() < 0.05 else []
            can += [("hand", rng.choice(new))] if new else []
            if not can:
                break
            event = rng.choice(can)
            if event[0] == "look" and rng.random() < 0.9:
                looks.pop()
            if event[0] == "hand":
                handed.add(event[1])
            row.append(event)
            system = system.done(event)
    return tuple(row), system


def told_waits(system):
    """[17.6]"""
    found = [("down", machine) for machine in down(system)]
    origin = system.origin
    if origin is not None and origin.queue:
        front = origin.queue[0][2]
        if origin.free_from is not None and system.clocks[0] <= origin.free_from:
            found.append(("early", 0))
        for (child, key), (_, end) in origin.book.lent.items():
            if end >= system.clocks[0] and key in dict(front):
                found.append(("held", child, key))
    if origin is not None and origin.held:
        found.append(("letters", len(origin.held)))
    for number, cache in system.caches.items():
        found += [("owed", number, key) for key in cache.owed] if cache is not None else []
    for reader in system.readers:
        found += [("read", reader.number)] if reader.open_read is not None else []
        found += [("write", reader.number)] if reader.open_write is not None else []
    return tuple(sorted(found))
