"""The table of what stages 14 to 21 take, for test_arguments: (call, (valid, judge, error, attribute), ..)."""

from helpers import is_int
from lent_calls import ANY, DEED_OF, FLOOR, QUESTION, RULES, SETUP, is_deed, is_rule, is_tree, number, thing
from told_views import is_key
from wholemoment import errors
from wholemoment.house.desk import Desk
from wholemoment.judge import counts, needed
from wholemoment.lend.readers import Reader, open_reads, open_writes
from wholemoment.lend.setups import Setup
from wholemoment.run import calm, sound, systems
from wholemoment.store.questions import is_question
from wholemoment.text import runs

ASKED = ("key", "a")
TOLD = (2, (0,), 12, 0, 3, (1,))
A_SETUP = Setup(2, (0,), 12)
EVENTS = (("read", 0, ASKED, 0), ("hand", 0), ("sync",), ("hand", 1))
A_SYSTEM = systems.System(A_SETUP).run(EVENTS)
BROKEN = needed.system_of(needed.broken_run("held"), without="held")
A_READER = Reader(2, 3)
READS = A_READER.with_read(ASKED, 3)
A_DESK = Desk(A_SETUP)
A_DESK.stop(("moment", 2))
A_DESK.do(EVENTS)


def is_event(value, machines=(2,), readers=1, spread=2, letters=10 ** 60):
    """Whether the value is an event, told anew."""
    if type(value) is not tuple or not value or type(value[0]) is not str:
        return False
    word, rest = value[0], value[1:]
    sizes = {"beat": 1, "look": 1, "hand": 1, "sync": 0, "fall": 2, "rise": 1, "read": 3, "write": 2, "again": 1, "drop": 1}
    if word not in sizes or sizes[word] != len(rest):
        return False
    if word == "sync":
        return True
    if word == "beat":
        return type(rest[0]) is tuple and len(rest[0]) in machines and all(is_int(told, 1, spread) for told in rest[0])
    if word == "hand":
        return is_int(rest[0], 0, letters - 1)
    if word in ("look", "rise", "fall"):
        kept = rest[1] if word == "fall" else ()
        right = type(kept) is tuple and all(is_int(told, 0, 1000) for told in kept)
        return is_int(rest[0], 0, max(machines) - 1) and right and (rest[0] == 0 or not kept)
    if not is_int(rest[0], 0, readers - 1):
        return False
    return word in ("again", "drop") or word == "write" and is_deed(rest[1]) or (
        word == "read" and is_question(rest[1]) and is_int(rest[2], 0, 10 ** 6))


def is_event_there(value):
    return is_event(value, letters=2)


def is_some_event(value):
    return is_event(value, machines=(2, 3, 4, 5, 6, 7), readers=6, spread=6)


def are_events(value):
    return type(value) is tuple and all(map(is_event, value))


def are_events_there(value):
    """The letters that are sent on the way are only asked for by the tests of systems."""
    return type(value) is tuple and all(map(is_event_there, value))


def is_run(value):
    if type(value) is not tuple or len(value) != 2 or type(value[0]) is not tuple or len(value[0]) != 6:
        return False
    spread, parents, term, span, patience, readers = value[0]
    told = is_int(spread, 1, 6) and is_tree(parents) and is_int(term, 1, 200) and is_int(span, 0, 200) and is_int(patience, 1, 20)
    if not told or type(readers) is not tuple or not 1 <= len(readers) <= 6:
        return False
    if not all(is_int(place, 1, len(parents)) for place in readers) or type(value[1]) is not tuple or len(value[1]) > 400:
        return False
    return all(is_event(event, (len(parents) + 1,), len(readers), spread) for event in value[1])


def are_reads(value):
    if type(value) is not tuple or len(value) > 60:
        return False
    for read in value:
        if type(read) is not tuple or len(read) != 2 or not is_int(read[0], 0) or type(read[1]) is not tuple:
            return False
        if not 1 <= len(read[1]) <= 6 or not all(map(is_key, read[1])) or list(read[1]) != sorted(set(read[1])):
            return False
    return [read[0] for read in value] == sorted(read[0] for read in value)


def are_ends(value):
    return type(value) is tuple and len(value) <= 240 and all(is_int(end, 0) for end in value)


def is_stop(value):
    if type(value) is not tuple or not value or type(value[0]) is not str:
        return False
    if len(value) == 3 and value[0] in ("answers", "writes"):
        return is_int(value[1], 0, 0) and is_int(value[2], 1)
    if len(value) == 3 and value[0] == "value":
        return is_key(value[1]) and (value[2] is None or is_int(value[2], -(10 ** 12 - 1), 10 ** 12 - 1))
    if len(value) == 3 and value[0] == "copy":
        return is_int(value[1], 1, 1) and is_key(value[2])
    if len(value) == 2:
        return value[0] == "moment" and is_int(value[1], 0) or value[0] == "down" and is_int(value[1], 0, 1)
    return False


def are_readers(value):
    if type(value) is not tuple or not all(type(reader) is Reader for reader in value):
        return False
    numbers = [reader.number for reader in value]
    return numbers == sorted(set(numbers))


def system_of_setup(setup, without):
    return systems.System(setup, without=without)


def desk_of(setup, without):
    return Desk(setup, without=without)


def run_without(run, without):
    return needed.system_of(run, without=without)


def breaks_without(run, without):
    return needed.what_breaks(run, without=without)


def on_twin(name):
    """A call of a desk, on an equal one: so each call finds the same one."""
    def call(*arguments):
        twin = A_DESK.twin()
        return getattr(twin, name)(*arguments), twin
    return call


def undone(calls):
    twin = A_DESK.twin()
    return twin.undo(calls=calls), twin


def name_of_rule(valid, lets_none):
    return (valid, lambda value: value is None and lets_none or type(value) is str and value in RULES, errors.UnknownName, "wanted")


SYSTEM = thing(A_SYSTEM, errors.InvalidSystem)
OF_CACHE = (1, lambda value: is_int(value, 1, 1), errors.InvalidMachine, None)
OF_RULE = ("late", is_rule, errors.InvalidOperation, None)
AGE, ONE = number(3, 0, 10 ** 6), number(1, 1)
ANSWER = number(0, 0, 0)
RUN = ((TOLD, EVENTS), is_run, errors.InvalidOperation, None)
SHORT = ((0, ("a",)), (3, ("a", "b")), (9, ("b",)))
SOME_READS = (SHORT, are_reads, errors.InvalidOperation, None)
HELD = number(3, 0, 200)
SPREAD = number(2, 1, 6)
STOP = (("copy", 1, "a"), is_stop, errors.InvalidOperation, None)
SOME_READERS = ((Reader(0, 1), READS), are_readers, errors.InvalidOperation, None)

RUN_CALLS = (
    (Reader, number(2, 0, 5), number(3, 1, 6)), (A_READER.with_read, QUESTION, AGE), (A_READER.with_write, DEED_OF),
    (READS.answered, ONE, FLOOR), (READS.heard_done, ONE, FLOOR), (READS.dropped,), (READS.fallen,), (READS.deed_letter,),
    (open_reads, SOME_READERS), (open_writes, SOME_READERS),
    (system_of_setup, SETUP, OF_RULE), (A_SYSTEM.instants, OF_CACHE),
    (A_SYSTEM.done, (("hand", 1), is_event_there, errors.InvalidEvent, None)),
    (A_SYSTEM.run, ((("hand", 1), ("look", 0)), are_events_there, errors.InvalidEvent, None)), (systems.is_event, SETUP, ANY),
    (sound.fault, SYSTEM), (sound.is_sound, SYSTEM), (sound.shown, SYSTEM, OF_CACHE, number(2, 0, 4)),
    (sound.moment_paper, SYSTEM, ANSWER), (sound.is_moment_paper, SYSTEM, ANSWER, ANY), (sound.papers_in_sequence, SYSTEM, ANSWER),
    (calm.calm, SYSTEM), (calm.most_rounds, SYSTEM), (calm.is_quiet, SYSTEM, ANY), (calm.is_calm, SYSTEM, ANY), (calm.what_waits, SYSTEM),
    (calm.quiet_rounds, SYSTEM, ((), lambda value: type(value) is tuple and value == (), errors.InvalidOperation, None)),
    (run_without, RUN, name_of_rule("late", True)), (breaks_without, RUN, name_of_rule("late", True)),
    (needed.broken_run, name_of_rule("late", False)), (needed.is_broken_run, name_of_rule("late", False), ANY),
    (needed.parting, RUN, name_of_rule("late", False)),
    (counts.held_at, SPREAD, number(50, 1, 200), number(1, 1, 6)), (counts.greatest_depth, SPREAD, number(50, 1, 200)),
    (counts.least_term, SPREAD, number(1, 1, 6), number(5, 1, 200)), (counts.asks_of, HELD, SOME_READS), (counts.fewest_asks, HELD, SOME_READS),
    (counts.do_cover, HELD, SOME_READS, ANY), (counts.are_apart, HELD, SOME_READS, ANY),
    (counts.asks_or_marks, HELD, SOME_READS, number(1, 0, 400)), (counts.is_asks_or_marks, HELD, SOME_READS, number(1, 0, 400), ANY),
    (counts.put_at, ((9, 12), are_ends, errors.InvalidOperation, None), number(7),
     (40, lambda value: value is None or is_int(value, 0), errors.InvalidNumber, "given")),
    (runs.write_run, SYSTEM), (runs.read_run, (runs.write_run(A_SYSTEM), lambda value: type(value) is str, errors.ParseError, "spot")),
    (runs.event_line, (("fall", 0, (3, 1)), is_some_event, errors.InvalidEvent, None)), (runs.tight, thing(BROKEN, errors.InvalidSystem)),
    (runs.lies_in, SYSTEM, ANY), (runs.apart_at, SYSTEM, SYSTEM),
    (desk_of, SETUP, OF_RULE), (on_twin("do"), (EVENTS[:1] + EVENTS[2:3], are_events, errors.InvalidEvent, None)),
    (on_twin("stop"), STOP), (on_twin("unstop"), (("moment", 2), is_stop, errors.InvalidOperation, None)), (undone, ONE),
    (A_DESK.behind, number(3, 0, 4)), (A_DESK.first, STOP), (A_DESK.page, ANSWER), (A_DESK.moments_of, ANSWER), (A_DESK.twin,),
)
RUN_JUDGES = (needed.is_run, runs.is_tight)
RUN_THINGS = (A_READER, A_SYSTEM, A_DESK)
RUN_METHODS = {
    Reader: ("with_read", "with_write", "deed_letter", "answered", "heard_done", "dropped", "fallen", "__eq__", "__str__"),
    systems.System: ("instants", "done", "run", "__eq__", "__len__", "__str__"),
    Desk: ("do", "stop", "unstop", "undo", "behind", "first", "page", "moments_of", "twin", "__contains__", "__len__", "__eq__", "__str__"),
}
