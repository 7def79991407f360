"""The forms of the events of a run."""

from wholemoment.base.wholes import is_within
from wholemoment.disk.disk import is_kept
from wholemoment.lend.readers import MOST_AGE
from wholemoment.store.deeds import is_deed
from wholemoment.store.questions import is_question
from wholemoment.time.clocks import MAX_MACHINES, MAX_SPREAD

_MOST_READERS = 6
_SIZES = {
    "beat": 2, "look": 2, "hand": 2, "sync": 1, "fall": 3, "rise": 2, "read": 4, "write": 3, "again": 2, "drop": 2,
}


def is_event_among(spread, machines, readers, value):
    """Whether the value is an event with a spread and so many machines and readers, whatever letter it names."""
    if not isinstance(value, tuple) or not value or not isinstance(value[0], str):
        return False
    word = value[0]
    if word not in _SIZES or len(value) != _SIZES[word]:
        return False
    if word == "sync":
        return True
    if word == "beat":
        return _are_advances(spread, machines, value[1])
    if word == "hand":
        return is_within(value[1], 0)
    if word in ("look", "rise", "fall"):
        return is_within(value[1], 0, machines - 1) and (word != "fall" or _is_kept_by(value[1], value[2]))
    return is_within(value[1], 0, readers - 1) and _is_told_by_reader(word, value[2:])


def is_event_of_some_setup(value):
    """Whether some setup has this event, whatever letter it names."""
    return any([is_event_among(MAX_SPREAD, machines, _MOST_READERS, value) for machines in range(2, MAX_MACHINES + 1)])


def _are_advances(spread, machines, value):
    if not isinstance(value, tuple) or len(value) != machines:
        return False
    return all([is_within(units, 1, spread) for units in value])


def _is_kept_by(machine, value):
    """Whether the value tells what stays when a machine falls: of a cache nothing does."""
    return is_kept(value) if machine == 0 else value == ()


def _is_told_by_reader(word, told):
    if word == "read":
        return is_question(told[0]) and is_within(told[1], 0, MOST_AGE)
    return word != "write" or is_deed(told[0])
