"""Each rule is needed: runs that break without it."""

from wholemoment.errors import InvalidOperation, InvalidSetup, Refused, UnknownName
from wholemoment.judge.broken import broken_run_of
from wholemoment.lend.cache import RULES
from wholemoment.lend.setups import Setup
from wholemoment.run.sound import fault
from wholemoment.run.systems import System, is_event

MOST_EVENTS = 400


def is_run(value):
    """Whether the value has the form of a run, whether it can be done or not."""
    if not isinstance(value, tuple) or len(value) != 2:
        return False
    told, events = value
    setup = _setup_of(told)
    if setup is None or not isinstance(events, tuple) or len(events) > MOST_EVENTS:
        return False
    return all([is_event(setup, event) for event in events])


def system_of(run, *, without=None):
    """The system behind a run."""
    _need_run(run)
    if without is not None:
        _need_rule(without)
    system = System(_setup_of(run[0]), without=without)
    for index, event in enumerate(run[1]):
        if not _is_there(system, event):
            raise Refused(("letter", index))
        system = system.done(event)
    return system


def what_breaks(run, *, without=None):
    """The fault of the system behind a run, None if there is none."""
    return fault(system_of(run, without=without))


def broken_run(word):
    """Any run that breaks without a rule."""
    _need_rule(word)
    return broken_run_of(word)


def is_broken_run(word, value):
    """Whether the value is a run that breaks without a rule."""
    _need_rule(word)
    if not is_run(value):
        return False
    try:
        return what_breaks(value, without=word) is not None
    except Refused:
        return False


def parting(run, word):
    """The number of the first event behind which a system without a rule is unlike the one with all rules."""
    _need_run(run)
    _need_rule(word)
    setup = _setup_of(run[0])
    whole, other = System(setup), System(setup, without=word)
    for index, event in enumerate(run[1]):
        if not _is_there(whole, event) or not _is_there(other, event):
            return None
        whole, other = whole.done(event), other.done(event)
        if _are_unlike(whole, other):
            return index + 1
    return None


def _need_run(run):
    if not is_run(run):
        raise InvalidOperation("a run is a pair of the parts of a setup and of at most 400 events of it")


def _need_rule(word):
    if not isinstance(word, str) or word not in RULES:
        raise UnknownName(word)


def _setup_of(told):
    """The setup with some parts, None if there is none."""
    if not isinstance(told, tuple) or len(told) != 6:
        return None
    spread, parents, term, span, patience, readers = told
    try:
        return Setup(spread, parents, term, span=span, patience=patience, readers=readers)
    except InvalidSetup:
        return None


def _is_there(system, event):
    """Whether the letter of an event is there, if it has one."""
    return event[0] != "hand" or event[1] < len(system.bag)


def _are_unlike(one, other):
    """Whether two systems of one setup behind equal events are unlike in more than the word that is left out."""
    if one.disk != other.disk or one.bag != other.bag or one.readers != other.readers:
        return True
    if one.deeds != other.deeds or one.answers != other.answers or _origin_parts(one) != _origin_parts(other):
        return True
    return any([_cache_parts(one, number) != _cache_parts(other, number) for number in one.caches])


def _origin_parts(system):
    """What can be unlike in two origins beside the word, None if it is down."""
    origin = system.origin
    if origin is None:
        return None
    store = (origin.pairs, origin.numbers, origin.disk, origin.ceiling, origin.free_from)
    return store + (origin.queue, origin.book, origin.held)


def _cache_parts(system, number):
    """What can be unlike in two caches beside the word, None if it is down."""
    cache = system.caches[number]
    if cache is None:
        return None
    waits = (cache.asked, cache.fence, cache.owed, cache.wants, cache.reads)
    return (cache.since, cache.shelf, cache.book, cache.turns) + waits
