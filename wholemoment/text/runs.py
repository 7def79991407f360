"""Texts of runs, and tight runs: those in which each event is needed for a fault."""

from wholemoment.errors import InvalidEvent, InvalidOperation, InvalidSetup, ParseError, Refused, TooMany
from wholemoment.lend.setups import Setup
from wholemoment.run.events import is_event_of_some_setup
from wholemoment.run.sound import fault
from wholemoment.run.systems import System, is_event, need_system
from wholemoment.text.lines import line_of, told_in

MOST_LINES = 1501

_ALL_RULES = "-"


def write_run(system):
    """The text of a run."""
    need_system(system)
    lines = [_setup_line(system)] + [line_of(event) for event in system.events]
    return "".join([line + "\n" for line in lines])


def read_run(text):
    """The system with a text."""
    if not isinstance(text, str):
        raise ParseError(None)
    *lines, rest = text.split("\n")
    system = _system_in(lines[0]) if lines else None
    if system is None:
        raise ParseError(0)
    for index, line in enumerate(lines):
        if index > 0:
            system = _behind_line(system, line, index)
    if rest != "":
        raise ParseError(len(lines))
    if len(lines) > MOST_LINES:
        raise TooMany(MOST_LINES)
    return system


def event_line(event):
    """The line of an event, without a newline."""
    if not is_event_of_some_setup(event):
        raise InvalidEvent("no event of any setup")
    return line_of(event)


def read_event(line):
    """The event of a line, None if it is that of none."""
    if not isinstance(line, str):
        return None
    told = told_in(line)
    return told if is_event_of_some_setup(told) else None


def tight(system):
    """Any tight system that lies in a broken one."""
    if fault(system) is None:
        raise Refused(("sound",))
    # Great pieces first: most events of a long run have no part in its fault.
    step = max(1, len(system) // 2)
    thinned = _thinned(system, step)
    while step > 1 or len(thinned) < len(system):
        system = thinned
        step = max(1, step // 2)
        thinned = _thinned(system, step)
    return thinned


def is_tight(value):
    """Whether the value is a system that is tight."""
    if not isinstance(value, System) or fault(value) is None:
        return False
    row = _on_the_way(value)
    for index in reversed(range(len(value))):
        if _broken_behind(row[index], value.events[index + 1:]) is not None:
            return False
    return True


def lies_in(system, value):
    """Whether the value is a system that lies in the first one."""
    need_system(system)
    if not isinstance(value, System) or value.setup != system.setup or value.without != system.without:
        return False
    wanted = value.events
    found = 0
    for event in system.events:
        if found < len(wanted) and wanted[found] == event:
            found += 1
    return found == len(wanted)


def apart_at(one, other):
    """The indices of the first event and of the first answer in which two systems are unlike, None for none."""
    need_system(one)
    need_system(other)
    if one.setup != other.setup or one.without != other.without:
        raise InvalidOperation("these are systems of unlike setups, or with unlike rules left out")
    return (_first_unlike(one.events, other.events), _first_unlike(one.answers, other.answers))


def _setup_line(system):
    setup = system.setup
    rule = _ALL_RULES if system.without is None else system.without
    told = (setup.spread, setup.parents, setup.term, setup.span, setup.patience, setup.readers, rule)
    return line_of(("setup",) + told)


def _system_in(line):
    """The system at its beginning that the first line tells, None if it tells none."""
    told = told_in(line)
    if told is None or told[0] != "setup":
        return None
    _, spread, parents, term, span, patience, readers, rule = told
    without = None if rule == _ALL_RULES else rule
    try:
        return System(Setup(spread, parents, term, span=span, patience=patience, readers=readers), without=without)
    except (InvalidSetup, InvalidOperation):
        return None


def _behind_line(system, line, index):
    """The system behind the event of a line; the same one for a line behind those that are let."""
    event = told_in(line)
    if not is_event(system.setup, event):
        raise ParseError(index)
    if index >= MOST_LINES:
        return system
    try:
        return system.done(event)
    except InvalidEvent:
        raise ParseError(index)


def _on_the_way(system):
    """The systems behind the first events of a system, from none of them to all but the last one."""
    row = [System(system.setup, without=system.without)]
    for event in system.events[:-1]:
        row.append(row[-1].done(event))
    return row


def _thinned(system, step):
    """The system without each piece of so many events, from the last one on, without which it still is broken."""
    row = _on_the_way(system)
    end = len(system)
    while end > 0:
        start = max(0, end - step)
        shorter = _broken_behind(row[start], system.events[end:])
        if shorter is not None:
            system = shorter
        end = start
    return system


def _broken_behind(system, events):
    """The system behind some events, None if it cannot be done or has no fault."""
    try:
        after = system.run(events)
    except InvalidEvent:
        return None
    return None if fault(after) is None else after


def _first_unlike(one, other):
    """The first index at which two tuples differ, None if they are equal."""
    for index, (early, late) in enumerate(zip(one, other)):
        if early != late:
            return index
    return None if len(one) == len(other) else min(len(one), len(other))
