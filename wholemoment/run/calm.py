"""Calms: from some time on nothing is lost, nothing falls, and all that is open comes to its end."""

from wholemoment.disk.log import read_log
from wholemoment.errors import InvalidOperation
from wholemoment.lend.readers import open_reads, open_writes
from wholemoment.lend.setups import depth_of
from wholemoment.run.systems import MAX_EVENTS, is_event, need_system


def calm(system):
    """The row of events with which the system comes to rest."""
    _need_all_rules(system)
    rises, hands = _openings(system)
    after = system.run(rises + hands)
    new = len(system.bag)
    while _is_open(after):
        after, new = _round_behind(after, new)
    return after.events[len(system):]


def most_rounds(system):
    """The most rounds that a calm of the system has."""
    _need_all_rules(system)
    setup = system.setup
    depth = max([depth_of(setup.parents, cache) for cache in range(1, setup.machines)])
    return max(setup.term, _wait_of_origin(system)) + 2 + depth * (setup.patience - 1)


def is_quiet(system, value):
    """Whether the value is a quiet row from the system on."""
    _need_all_rules(system)
    return _read_row(system, value) is not None


def quiet_rounds(system, events):
    """How many rounds a quiet row has."""
    _need_all_rules(system)
    row = _read_row(system, events)
    if row is None:
        raise InvalidOperation("these events are no quiet row from the system on")
    return len(row) - 1


def is_calm(system, value):
    """Whether the value is a quiet row with just as many rounds as it takes to close all reads and writes."""
    _need_all_rules(system)
    row = _read_row(system, value)
    if row is None or _is_open(row[-1]):
        return False
    return len(row) == 1 or _is_open(row[-2])


def what_waits(system):
    """Why a read or a write is open: an ascending tuple of words, each with its reason."""
    _need_all_rules(system)
    found = [("down", machine) for machine in _machines_down(system)]
    found.extend(_waits_of_origin(system))
    for number, cache in system.caches.items():
        if cache is not None:
            found.extend([("owed", number, key) for key in cache.owed])
    found.extend([("write", number) for number in open_writes(system.readers)])
    found.extend([("read", number) for number in open_reads(system.readers)])
    return tuple(sorted(found))


def _need_all_rules(system):
    need_system(system)
    if system.without is not None:
        raise InvalidOperation("a calm is that of a system with all rules")


def _is_open(system):
    return bool(open_reads(system.readers)) or bool(open_writes(system.readers))


def _machines_down(system):
    """The ascending list of the machines that are down."""
    origin = [0] if system.origin is None else []
    return origin + [number for number, cache in system.caches.items() if cache is None]


def _openings(system):
    """The rises and the hands with which a calm begins."""
    rises = [("rise", machine) for machine in _machines_down(system)]
    deeds = [system.readers[number].deed_letter() for number in open_writes(system.readers)]
    hands = [("hand", system.bag.letters.index(deed)) for deed in deeds]
    return (tuple(rises), tuple(hands))


def _beat(setup):
    return ("beat", tuple([1 for _ in range(setup.machines)]))


def _round_behind(system, new):
    """The system behind a round, and the least number of its letters that are new, as in the round all are handed."""
    after = system.done(_beat(system.setup))
    after = after.run(tuple([("look", machine) for machine in range(system.setup.machines)]))
    while after.origin.held or new < len(after.bag):
        if after.origin.held:
            after = after.done(("sync",))
        else:
            after = after.done(("hand", new))
            new += 1
    return (after, new)


def _wait_of_origin(system):
    """How much the reading up to which the origin puts no deed is above its own, behind the rises."""
    if system.origin is None:
        return read_log(system.disk.sure).ceiling - system.clocks[0]
    free_from = system.origin.free_from
    return 0 if free_from is None else free_from - system.clocks[0]


def _waits_of_origin(system):
    origin = system.origin
    if origin is None:
        return []
    reading = system.clocks[0]
    found = [("held", child, key) for key in origin.closed for child in origin.book.holders(key, reading)]
    if origin.queue and origin.free_from is not None and reading <= origin.free_from:
        found.append(("early", 0))
    if origin.held:
        found.append(("letters", len(origin.held)))
    return found


def _read_row(system, value):
    """The systems behind the openings and behind each round of a quiet row, None if the value is none."""
    if not isinstance(value, tuple) or len(system) + len(value) > MAX_EVENTS:
        return None
    if not all([is_event(system.setup, event) for event in value]):
        return None
    rises, hands = _openings(system)
    behind = len(rises) + len(hands)
    if not _are_in_any_sequence(rises, value[:len(rises)]):
        return None
    if not _are_in_any_sequence(hands, value[len(rises):behind]):
        return None
    row = [system.run(value[:behind])]
    new = {number: True for number in range(len(system.bag), len(row[0].bag))}
    for events in _parted_by_beats(value[behind:]):
        found = _behind_quiet_round(row[-1], events, new)
        if found is None:
            return None
        row.append(found)
        new = {}
    return row


def _are_in_any_sequence(wanted, events):
    return len(wanted) == len(events) and all([event in events for event in wanted])


def _parted_by_beats(events):
    """The events of each round: what begins without a beat is no round either."""
    rounds = []
    for event in events:
        if event[0] == "beat" or not rounds:
            rounds.append([])
        rounds[-1].append(event)
    return rounds


def _behind_quiet_round(system, events, new):
    """The system behind a quiet round, None if the events are none; new are the letters that are new ahead of it."""
    if events[0] != _beat(system.setup):
        return None
    waiting = {number: True for number in new}
    looked = {}
    after = system
    for event in events:
        if event[0] == "hand" and event[1] not in waiting:
            return None
        if event[0] not in ("beat", "look", "sync", "hand"):
            return None
        early = len(after.bag)
        after = after.done(event)
        if event[0] == "hand":
            waiting.pop(event[1])
        if event[0] == "look":
            looked[event[1]] = True
        for number in range(early, len(after.bag)):
            waiting[number] = True
    if waiting or after.origin.held or len(looked) < system.setup.machines:
        return None
    return after
