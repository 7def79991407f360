"""What holds in every run, and papers that show when the page of an answer stood."""

from wholemoment.base.wholes import is_within, need_number
from wholemoment.disk.log import read_log
from wholemoment.errors import InvalidMachine
from wholemoment.run.systems import need_system
from wholemoment.run.times import bounds_at, states_of, times_showing
from wholemoment.store.questions import plain_answer


def fault(system):
    """The first statement that is not true, None if there is none."""
    need_system(system)
    states = states_of(system.deeds)
    found = _answer_fault(system, states)
    if found is None:
        found = _copy_fault(system, states)
    if found is None:
        found = _lent_fault(system)
    if found is None:
        found = _disk_fault(system)
    if found is None:
        found = _floor_fault(system)
    return _once_fault(system) if found is None else found


def is_sound(system):
    """Whether all statements are true."""
    return fault(system) is None


def shown(system, cache, time):
    """The ascending tuple of the instants that a cache shows at a time."""
    need_system(system)
    if not is_within(cache, 1, system.setup.caches):
        raise InvalidMachine("only a cache of the setup shows instants")
    need_number(time, 0, len(system))
    rows = system.instants(cache)
    if rows[time] is None:
        return ()
    reading, first, count, last = bounds_at(rows, time)
    stood = [(reading, told) for told in range(first, count + 1)]
    return tuple(stood + [(told, count) for told in range(reading + 1, last + 1)])


def moment_paper(system, index):
    """Any paper of an answer, None if there is none."""
    need_system(system)
    need_number(index, 0, len(system.answers) - 1)
    papers = _papers(system, system.answers[index], states_of(system.deeds))
    return papers[0] if papers else None


def is_moment_paper(system, index, value):
    """Whether the value is a paper of an answer."""
    need_system(system)
    need_number(index, 0, len(system.answers) - 1)
    if not isinstance(value, tuple) or len(value) != 3 or not all([is_within(told, 0) for told in value[1:]]):
        return False
    return value in _papers(system, system.answers[index], states_of(system.deeds))


def papers_in_sequence(system, reader):
    """Papers with times that never fall for a reader's answers in the life of its last one, None if there are none."""
    need_system(system)
    need_number(reader, 0, len(system.readers) - 1)
    answers = [answer for answer in system.answers if answer[1] == reader]
    states = states_of(system.deeds)
    papers = []
    time = 0
    for answer in answers:
        if answer[4] != answers[-1][4]:
            continue
        # The earliest paper leaves most room for those of later answers.
        found = [paper for paper in _papers(system, answer, states) if paper[1] >= time]
        if not found:
            return None
        papers.append(found[0])
        time = found[0][1]
    return tuple(papers)


def times_of_answer(system, answer):
    """The ascending list of the times of its life at which its cache shows an instant that an answer tells."""
    return times_showing(system.instants(answer[3]), answer[4], answer[8], answer[9])


def _papers(system, answer, states):
    """All papers of an answer, times ascending."""
    times = times_of_answer(system, answer)
    right = _moments_with_answer(system, answer, times, states)
    return [("stood", time, system.moments[time]) for time in times if system.moments[time] in right]


def _moments_with_answer(system, answer, times, states):
    """The moments at some times at which the question of an answer has the told value, as keys."""
    moments = {system.moments[time]: True for time in times}
    return {moment: True for moment in moments if plain_answer(answer[5], states[moment]) == answer[7]}


def _answer_fault(system, states):
    for index, answer in enumerate(system.answers):
        if not _is_answer_sound(system, answer, states):
            return ("answer", index)
    return None


def _is_answer_sound(system, answer, states):
    event, cache, age, low, high = answer[0], answer[3], answer[6], answer[8], answer[9]
    _, reading, count = system.instants(cache)[event]
    if high[0] > reading or high[1] > count or low[0] < reading - age:
        return False
    times = times_of_answer(system, answer)
    right = _moments_with_answer(system, answer, times, states)
    return bool(times) and all([system.moments[time] in right for time in times])


def _copy_fault(system, states):
    for number, cache in system.caches.items():
        if cache is None:
            continue
        rows = system.instants(number)
        for copy in cache.shelf.copies:
            times = times_showing(rows, rows[-1][0], copy.begin, _end_of(copy, rows[-1][2]))
            if any([states[system.moments[time]].get(copy.key) != copy.value for time in times]):
                return ("copy", number, copy.key)
    return None


def _end_of(copy, count):
    """The greatest reading and count of the instants that a copy covers, at a cache with so many events."""
    if copy.gone is None:
        return (copy.last, count)
    return (min(copy.last, copy.gone[0]), copy.gone[1] - 1)


def _lent_fault(system):
    for number, cache in system.caches.items():
        if cache is None:
            continue
        for key in cache.shelf.true_keys(system.clocks[number]):
            if not _is_lent(system, cache.parent, number, key):
                return ("lent", number, key)
    return None


def _is_lent(system, parent, child, key):
    """Whether a parent is down, has a key in its book for a child, or rose and waits."""
    lender = system.caches[parent] if parent > 0 else system.origin
    reading = system.clocks[parent]
    if lender is None or child in lender.book.holders(key, reading):
        return True
    if parent == 0:
        return lender.free_from is not None and reading <= lender.free_from
    return lender.since is not None and reading <= lender.since + system.setup.term


def _disk_fault(system):
    if system.deeds != read_log(system.disk.sure).deeds:
        return ("disk",)
    if system.origin is None:
        return None
    kept = read_log(system.disk.blocks)
    origin = system.origin
    if origin.pairs == kept.pairs and origin.numbers == kept.numbers and origin.ceiling == kept.ceiling:
        return None
    return ("disk",)


def _floor_fault(system):
    for reader in system.readers:
        if not _does_floor_hold(system, reader):
            return ("floor", reader.number)
    return None


def _does_floor_hold(system, reader):
    answers = [answer for answer in system.answers if answer[1] == reader.number]
    for early, late in zip(answers, answers[1:]):
        if early[4] == late[4] and not _is_not_behind(early[8], late[8]):
            return False
    now = system.instants(reader.place)[-1]
    lows = [answer[8] for answer in answers if now is not None and answer[4] == now[0]]
    return all([_is_not_behind(low, reader.floor) for low in lows])


def _is_not_behind(early, late):
    """Whether an instant has at least the reading and the count of another one."""
    return early[0] <= late[0] and early[1] <= late[1]


def _once_fault(system):
    """The deeds that count are those of the sure blocks."""
    seen = {}
    twice = []
    for _, writer, number, _ in read_log(system.disk.sure).records:
        if (writer, number) in seen:
            twice.append((writer, number))
        seen[(writer, number)] = True
    return ("once", min(twice)[0], min(twice)[1]) if twice else None
