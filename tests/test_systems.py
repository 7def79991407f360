"""Systems, stage 15."""

import random
import unittest

from drawn_runs import some_deed, some_event, some_question, some_setup, some_system
from helpers import ODD, assert_raises, mutants
from told_runs import ToldRun
from wholemoment import errors
from wholemoment.disk.disk import Disk
from wholemoment.disk.log import block_of, read_log
from wholemoment.lend.cache import RULES, Cache
from wholemoment.lend.origin import Origin
from wholemoment.lend.readers import Reader
from wholemoment.lend.setups import Setup
from wholemoment.net.letters import Bag
from wholemoment.run import systems
from wholemoment.run.systems import System, is_event

SETUP = Setup(2, (0, 1), 8, readers=(2, 1))
START = System(SETUP)
ASKED, DEED = ("key", "a"), (("a", 5),)
# A read at the cache 1 of another setup up to its answer: the letters 0 (the ask) and 1 (the grant).
ANSWERED = (("read", 0, ASKED, 0), ("hand", 0), ("sync",), ("hand", 1))


def parts(system):
    """All that a system tells, but for its events."""
    rows = tuple(system.instants(number) for number in system.caches)
    return (system.setup, system.without, system.clocks, system.origin, system.caches, system.disk, system.bag, system.readers,
            system.deeds, system.answers, rows, system.moments)


def changed(test, system, event):
    """The names of what an event changes, beside the events, the moments and the instants, which get one more row."""
    after = system.done(event)
    test.assertEqual(after.events, system.events + (event,))
    test.assertEqual(after.moments, system.moments + (len(after.deeds),))
    for number in system.caches:
        test.assertEqual(after.instants(number)[:-1], system.instants(number))
        test.assertEqual(after.instants(number)[-1], now_of(after, number, after.instants(number)))
    names = ("clocks", "origin", "caches", "disk", "bag", "readers", "deeds", "answers")
    return [name for name in names if getattr(after, name) != getattr(system, name)]


def now_of(system, number, rows):
    if system.caches[number] is None:
        return None
    lives = [row[0] for row in rows if row is not None]
    return (lives[-1], system.clocks[number], system.caches[number].turns)


class BeginningTest(unittest.TestCase):
    def test_the_beginning(self):
        self.assertEqual((START.setup, START.without, START.clocks), (SETUP, None, (0, 0, 0)))
        self.assertEqual((START.origin, START.caches), (Origin(SETUP), {1: Cache(SETUP, 1), 2: Cache(SETUP, 2)}))
        self.assertEqual(list(START.caches), [1, 2])
        self.assertEqual((START.disk, START.bag, START.readers), (Disk(), Bag(), (Reader(0, 2), Reader(1, 1))))
        self.assertEqual((START.deeds, START.answers, START.events, START.moments), ((), (), (), (0,)))
        self.assertEqual((START.instants(1), START.instants(2), len(START)), (((0, 0, 0),), ((0, 0, 0),), 0))
        self.assertEqual(str(START), "system of 3 machines, 0 events, 0 letters")
        self.assertEqual(systems.MAX_EVENTS, 1500)

    def test_without_a_rule(self):
        for word in RULES:
            system = System(SETUP, without=word)
            self.assertEqual((system.without, system.origin.without, system.caches[2].without), (word, word, word))
            risen = system.run((("fall", 0, ()), ("fall", 1, ()), ("rise", 0), ("rise", 1)))
            self.assertEqual((risen.origin.without, risen.caches[1].without), (word, word))

    def test_wrong_arguments(self):
        for setup in ODD:
            assert_raises(self, errors.InvalidSetup, None, lambda value: System(value, without="x"), setup)
        for word in ODD + ["spreads", ("spread",), "SPREAD"]:
            if word is not None:
                assert_raises(self, errors.InvalidOperation, None, lambda value: System(SETUP, without=value), word)

    def test_trees_of_one_and_of_six_caches(self):
        for parents in ((0,), (0, 1, 2, 3, 4, 5), (0, 0, 0, 0, 0, 0)):
            for spread in (1, 6):
                system = System(Setup(spread, parents, 200, readers=(len(parents),)))
                self.assertEqual(system.clocks, (0,) * (len(parents) + 1))
                after = system.done(("beat", (spread,) * (len(parents) + 1)))
                self.assertEqual(after.clocks, (spread,) * (len(parents) + 1))
                assert_raises(self, errors.InvalidEvent, None, system.done, ("beat", (spread + 1,) * (len(parents) + 1)))
                assert_raises(self, errors.InvalidMachine, None, system.instants, len(parents) + 1)


class EventsTest(unittest.TestCase):
    """Each event, also where it cannot be done."""

    def test_beats(self):
        self.assertEqual(changed(self, START, ("beat", (1, 2, 1))), ["clocks"])
        self.assertEqual(START.run((("beat", (1, 2, 1)), ("beat", (2, 2, 1)))).clocks, (3, 4, 2))
        down = START.run((("fall", 0, ()), ("fall", 1, ())))
        self.assertEqual(down.done(("beat", (1, 2, 1))).clocks, (1, 2, 1))

    def test_looks(self):
        self.assertEqual(changed(self, START, ("look", 1)), ["caches"])
        self.assertEqual(START.done(("look", 1)).instants(1)[-1], (0, 0, 1))
        self.assertEqual(changed(self, START, ("look", 0)), [])
        waits = START.run((("read", 0, ASKED, 0), ("beat", (1, 1, 1)), ("beat", (1, 1, 2))))
        self.assertEqual(changed(self, waits, ("look", 2)), ["caches", "bag"])
        self.assertEqual(waits.done(("look", 2)).bag.letters, (("ask", 2, 1, "a", 0), ("ask", 2, 1, "a", 3)))
        for machine in (0, 1):
            self.assertEqual(changed(self, START.done(("fall", machine, ())), ("look", machine)), [])

    def test_a_look_of_the_origin_puts_what_is_due(self):
        held = START.run((("read", 1, ASKED, 0), ("hand", 0), ("sync",), ("write", 1, DEED), ("hand", 2)))
        late = held.run((("beat", (2, 2, 2)),) * 4 + (("beat", (1, 1, 1)),))
        self.assertEqual((held.origin.pairs, late.done(("look", 0)).origin.pairs), ({}, {"a": 5}))
        self.assertEqual(changed(self, late, ("look", 0)), ["origin", "disk"])
        self.assertEqual(late.done(("look", 0)).disk, late.done(("look", 0)).origin.disk)

    def test_hands(self):
        asks = START.done(("read", 0, ASKED, 0))
        self.assertEqual(changed(self, asks, ("hand", 0)), ["caches", "bag"])
        self.assertEqual(asks.done(("hand", 0)).bag.letters, (("ask", 2, 1, "a", 0), ("ask", 1, 0, "a", 0)))
        for number in (1, 2, 10 ** 60 - 1):
            assert_raises(self, errors.InvalidEvent, None, asks.done, ("hand", number))
        at_origin = asks.run((("hand", 0), ("hand", 1)))
        self.assertEqual((at_origin.origin.book.lent, len(at_origin.bag)), ({(1, "a"): (0, 8)}, 2))
        for machine, number in ((1, 0), (0, 1)):
            down = asks.run((("hand", 0), ("fall", machine, ())))
            self.assertEqual(changed(self, down, ("hand", number)), [])
            self.assertEqual(down.done(("hand", number)).bag, down.bag)

    def test_letters_are_handed_again_and_out_of_sequence(self):
        run = START.run((("read", 1, ASKED, 0), ("hand", 0), ("hand", 0), ("sync",)))
        self.assertEqual(run.bag.letters[1:], (("grant", 0, 1, "a", None, 0, 8),) * 2)
        late = run.run((("hand", 2), ("hand", 1), ("hand", 2)))
        self.assertEqual((late.caches[1].turns, len(late.answers), len(late.caches[1].shelf)), (4, 1, 1))
        self.assertEqual(late.answers[0][:5], (5, 1, 1, 1, 0))

    def test_what_is_handed_to_a_reader(self):
        run = START.run((("write", 0, DEED), ("hand", 0), ("sync",)))
        self.assertEqual(run.bag.letters, (("deed", 0, 1, DEED), ("done", 0, 1)))
        self.assertEqual(changed(self, run, ("hand", 1)), ["caches", "readers"])
        told = run.run((("beat", (1, 1, 2)), ("hand", 1)))
        self.assertEqual((told.readers[0].open_write, told.readers[0].floor, told.instants(2)[-1]), (None, (2, 1), (0, 2, 1)))
        self.assertEqual(changed(self, told, ("hand", 1)), ["caches"])
        self.assertEqual(told.done(("hand", 1)).readers[0].floor, (2, 1))
        self.assertEqual(changed(self, run.done(("fall", 2, ())), ("hand", 1)), [])

    def test_syncs(self):
        held = START.run((("write", 0, DEED), ("hand", 0)))
        self.assertEqual((held.disk.sure, held.disk.waiting, held.deeds), ((), (block_of(("deed", 0, 1, DEED)),), ()))
        self.assertEqual(changed(self, held, ("sync",)), ["origin", "disk", "bag", "deeds"])
        self.assertEqual((held.done(("sync",)).deeds, held.done(("sync",)).moments), ((DEED,), (0, 0, 0, 1)))
        self.assertEqual(changed(self, held.done(("sync",)), ("sync",)), [])
        self.assertEqual(changed(self, held.done(("fall", 0, ())), ("sync",)), [])

    def test_letters_of_the_origin_leave_behind_the_sync(self):
        run = START.run((("write", 0, DEED), ("read", 1, ("sum", ("a", "b")), 0), ("hand", 2), ("hand", 0), ("hand", 1)))
        self.assertEqual(len(run.bag), 3)
        self.assertEqual(run.done(("sync",)).bag.letters[3:],
                         (("grant", 0, 1, "b", None, 0, 8), ("done", 0, 1), ("grant", 0, 1, "a", 5, 0, 8)))
        alone = System(SETUP, without="held").run((("write", 0, DEED), ("hand", 0)))
        self.assertEqual((alone.bag.letters[1:], alone.origin.held, alone.deeds), ((("done", 0, 1),), (), ()))

    def test_falls_and_rises_of_a_cache(self):
        run = START.run((("write", 0, DEED), ("hand", 0), ("sync",), ("beat", (1, 1, 2)), ("look", 2), ("hand", 1),
                         ("write", 0, DEED), ("read", 0, ASKED, 7), ("read", 1, ASKED, 7)))
        self.assertEqual(run.readers[0].floor, (2, 2))
        self.assertEqual(changed(self, run, ("fall", 2, ())), ["caches", "readers"])
        down = run.done(("fall", 2, ()))
        self.assertEqual((down.caches[2], down.caches[1], down.instants(2)[-1]), (None, run.caches[1], None))
        self.assertEqual((down.readers[0].open_read, down.readers[0].open_write, down.readers[0].floor), (None, (2, DEED), (2, 0)))
        self.assertEqual(down.readers[1], run.readers[1])
        self.assertEqual(changed(self, down, ("fall", 2, ())), [])
        up = down.run((("beat", (1, 1, 1)), ("rise", 2)))
        self.assertEqual((up.caches[2], up.instants(2)[-2:]), (Cache(SETUP, 2, since=3), (None, (1, 3, 0))))
        self.assertEqual(changed(self, up, ("rise", 2)), [])
        again = up.run((("look", 2), ("fall", 2, ()), ("rise", 2)))
        self.assertEqual(again.instants(2)[-3:], ((1, 3, 1), None, (2, 3, 0)))

    def test_falls_and_rises_of_the_origin(self):
        run = START.run((("write", 0, DEED), ("hand", 0), ("sync",), ("write", 1, (("b", 6),)), ("hand", 2)))
        block = block_of(("deed", 1, 1, (("b", 6),)))
        for kept, waits, deeds in (((), (), (DEED,)), ((5,), (block[:5],), (DEED,)), ((1000,), (block,), (DEED, (("b", 6),)))):
            down = run.done(("fall", 0, kept))
            self.assertEqual((down.origin, down.disk, down.deeds), (None, Disk(run.disk.sure + waits), deeds))
            self.assertEqual((down.caches, down.bag, down.readers), (run.caches, run.bag, run.readers))
            self.assertEqual(changed(self, down, ("fall", 0, (3,))), [])
            up = down.run((("beat", (2, 1, 1)), ("rise", 0)))
            self.assertEqual((up.origin, up.disk), (Origin.risen(SETUP, down.disk, 2), down.disk))
            self.assertEqual(changed(self, up, ("rise", 0)), [])
        self.assertEqual(changed(self, run, ("rise", 0)), [])
        # What the origin held is lost.
        self.assertEqual(run.run((("fall", 0, (1000,)), ("rise", 0), ("sync",))).bag, run.bag)

    def test_reads(self):
        self.assertEqual(changed(self, START, ("read", 0, ASKED, 3)), ["caches", "bag", "readers"])
        asks = START.done(("read", 0, ASKED, 3))
        self.assertEqual((asks.readers[0].open_read, asks.caches[2].reads), ((1, ASKED, 3), ((0, 1, ASKED, 3, (0, 0)),)))
        self.assertEqual(changed(self, asks, ("read", 0, ("key", "b"), 3)), [])
        self.assertEqual(changed(self, START.done(("fall", 2, ())), ("read", 0, ASKED, 3)), [])
        self.assertEqual(START.done(("fall", 2, ())).done(("read", 0, ASKED, 3)).readers[0].read_number, 0)
        # A question without keys is answered at once.
        told = START.done(("read", 1, ("number", 4), 0))
        self.assertEqual(told.answers, ((1, 1, 1, 1, 0, ("number", 4), 0, 4, (0, 0), (0, 1)),))
        self.assertIsNone(told.readers[1].open_read)

    def test_a_read_is_asked_with_the_floor_of_its_reader(self):
        told = START.run((("write", 0, DEED), ("hand", 0), ("sync",), ("beat", (1, 1, 2)), ("hand", 1), ("read", 0, ASKED, 3)))
        self.assertEqual(told.caches[2].reads, ((0, 1, ASKED, 3, (2, 1)),))

    def test_writes_and_again(self):
        self.assertEqual(changed(self, START, ("write", 0, DEED)), ["bag", "readers"])
        wrote = START.done(("write", 0, DEED))
        self.assertEqual(changed(self, wrote, ("write", 0, (("b", 1),))), [])
        self.assertEqual(changed(self, wrote, ("again", 0)), ["bag"])
        self.assertEqual(wrote.done(("again", 0)).bag.letters, (("deed", 0, 1, DEED),) * 2)
        self.assertEqual(changed(self, START, ("again", 0)), [])
        self.assertEqual(changed(self, wrote, ("again", 1)), [])
        done = wrote.run((("hand", 0), ("sync",), ("hand", 1)))
        self.assertEqual(changed(self, done, ("again", 0)), [])
        # A reader whose cache is down still writes.
        self.assertEqual(changed(self, START.done(("fall", 2, ())), ("write", 0, DEED)), ["bag", "readers"])

    def test_drops(self):
        asks = START.done(("read", 0, ASKED, 3))
        self.assertEqual(changed(self, asks, ("drop", 0)), ["caches", "readers"])
        dropped = asks.done(("drop", 0))
        self.assertEqual((dropped.readers[0].open_read, dropped.caches[2].reads), (None, ()))
        self.assertEqual((dropped.readers[0].read_number, dropped.instants(2)[-1]), (1, asks.instants(2)[-1]))
        for system in (START, dropped, asks.done(("fall", 2, ()))):
            self.assertEqual(changed(self, system, ("drop", 0)), [])
        self.assertEqual(changed(self, asks, ("drop", 1)), [])

    def test_givings_back_are_events_of_their_own(self):
        lent = System(Setup(1, (0,), 9)).run(ANSWERED)
        wanted = lent.run((("write", 0, DEED), ("hand", 2), ("sync",), ("hand", 3)))
        self.assertEqual(wanted.bag.letters[3:], (("recall", 0, 1, "a"), ("back", 1, 0, "a", 0)))
        self.assertEqual([row[2] for row in wanted.instants(1)], [0, 1, 1, 1, 2, 2, 2, 2, 4])

    def test_the_floor_of_a_done_is_its_own_instant(self):
        """A giving back behind the "done" in the same event of a system is a later event of the cache."""
        setup = Setup(1, (0, 1), 9, readers=(2, 1))
        lent = System(setup).run((("read", 0, ASKED, 0), ("hand", 0), ("hand", 1), ("sync",), ("hand", 2), ("hand", 3)))
        early = lent.run((("write", 1, (("b", 1),)), ("hand", 4), ("sync",), ("fall", 1, ()), ("rise", 1)))
        wanted = early.run((("write", 0, DEED), ("hand", 6), ("sync",), ("hand", 7)))
        self.assertEqual((wanted.bag.letter(5), wanted.bag.letter(7)), (("done", 1, 1), ("recall", 0, 1, "a")))
        late = wanted.run(tuple(("beat", (1, 1, 1)) for _ in range(10)))
        told = late.done(("hand", 5))
        self.assertEqual((late.instants(1)[-1], told.instants(1)[-1]), ((1, 10, 1), (1, 10, 3)))
        self.assertEqual(told.readers[1].floor, (10, 2))


class AnswersTest(unittest.TestCase):
    def test_what_stands_in_an_answer(self):
        setup = Setup(2, (0,), 8, readers=(1, 1))
        run = System(setup).run(ANSWERED + (("fall", 1, ()), ("beat", (1, 2)), ("rise", 1), ("beat", (1, 1))))
        run = run.run((("read", 1, ("many", ("a", "b")), 4), ("hand", 3), ("hand", 2), ("sync",), ("hand", 5), ("hand", 4)))
        self.assertEqual(run.answers[0], (4, 0, 1, 1, 0, ASKED, 0, 0, (0, 2), (0, 2)))
        self.assertEqual(run.answers[1], (14, 1, 1, 1, 1, ("many", ("a", "b")), 4, 0, (3, 3), (3, 3)))

    def test_several_answers_at_one_event(self):
        setup = Setup(2, (0,), 8, readers=(1, 1, 1))
        run = System(setup).run(tuple(("read", j, ASKED, j) for j in range(3)) + (("hand", 0), ("sync",), ("hand", 1)))
        self.assertEqual([answer[:3] + answer[6:8] for answer in run.answers], [(6, j, 1, j, 0) for j in range(3)])
        self.assertEqual([reader.floor for reader in run.readers], [(0, 4)] * 3)


class HistoryTest(unittest.TestCase):
    def test_a_deed_is_there_from_the_sync_or_from_the_fall_that_left_it(self):
        row = (("write", 0, DEED), ("write", 1, (("b", 6),)), ("hand", 0), ("hand", 1))
        two = START.run(row)
        self.assertEqual((two.deeds, two.done(("sync",)).deeds), ((), (DEED, (("b", 6),))))
        self.assertEqual(two.done(("sync",)).moments, (0, 0, 0, 0, 0, 2))
        self.assertEqual(two.done(("fall", 0, (0, 1000))).deeds, ((("b", 6),),))
        self.assertEqual(two.done(("fall", 0, (1000, 4))).moments[-2:], (0, 1))
        # The deed that the fall took is sent again, and comes behind the other one.
        again = two.run((("fall", 0, (0, 1000)), ("rise", 0), ("hand", 0), ("look", 0), ("sync",)))
        self.assertEqual(again.deeds, ((("b", 6),), DEED))

    def test_it_is_what_is_read_of_the_sure_blocks_and_only_grows(self):
        for seed in range(30):
            row = some_system(seed, rule(seed), 80)
            for early, late in zip(row, row[1:]):
                self.assertEqual(late.deeds[:len(early.deeds)], early.deeds)
            for system in row[::10]:
                self.assertEqual(system.deeds, read_log(system.disk.sure).deeds)
            self.assertEqual(row[-1].moments, tuple(len(system.deeds) for system in row))

    def test_a_deed_whose_done_was_never_heard_can_be_in_it(self):
        """[15.6]"""
        run = START.run((("write", 0, DEED), ("hand", 0), ("sync",)))
        self.assertEqual((run.deeds, run.readers[0].open_write), ((DEED,), (1, DEED)))


def rule(seed):
    """The rule that is left out in a drawn run: mostly none."""
    return (None, None, None, "held", "stamp", "ceiling", "late")[seed % 7]


def told_run(system):
    """The same events, done by the machines of the tests' own run."""
    run = ToldRun(system.setup, system.without)
    for event in system.events:
        word, rest = event[0], event[1:]
        getattr(run, word)(*rest)
    return run


class DrawnTest(unittest.TestCase):
    def test_as_told_anew(self):
        for seed in range(60):
            system = some_system(seed, rule(seed), 120)[-1]
            run = told_run(system)
            self.assertEqual((list(system.clocks), system.origin, system.disk, system.caches), (run.clocks, run.origin, run.disk, run.caches))
            self.assertEqual(system.bag.letters, tuple(run.bag))
            self.assertEqual([reader.floor for reader in system.readers], run.floors)
            self.assertEqual([reader.open_read for reader in system.readers], run.reading)
            self.assertEqual([reader.open_write for reader in system.readers], run.writing)
            told = [(event, j, cache, life, question, age, value, low, high)
                    for event, j, _, cache, life, question, age, value, low, high in system.answers]
            self.assertEqual(told, [answer[:-1] for answer in run.answers])
            self.assertEqual((system.deeds, system.moments), (run.log.deeds, tuple(length for _, _, length in run.times)))

    def test_row_by_row_and_at_once(self):
        for seed in range(20):
            row = some_system(seed, rule(seed), 60)
            told = [parts(system) for system in row]
            self.assertEqual(parts(row[0].run(row[-1].events)), parts(row[-1]))
            self.assertEqual(parts(row[20].run(row[-1].events[20:])), parts(row[-1]))
            # No call changed a system: all are as they were when they came.
            self.assertEqual([parts(system) for system in row], told)
            self.assertEqual([list(system.caches) for system in row], [sorted(row[0].caches)] * len(row))

    def test_instants(self):
        """Within a life readings never fall and counts ascend with each event; several can have one reading."""
        same = 0
        for seed in range(20):
            system = some_system(seed, None, 100)[-1]
            for number in system.caches:
                rows = system.instants(number)
                self.assertEqual(len(rows), 101)
                for early, late in zip(rows, rows[1:]):
                    if early is not None and late is not None:
                        self.assertTrue(early[0] == late[0] and early[1] <= late[1] and early[2] <= late[2])
                        same += early[1] == late[1] and early[2] < late[2]
        self.assertGreater(same, 100)


class ObjectTest(unittest.TestCase):
    def test_equal_systems(self):
        self.assertEqual(START, System(Setup(2, (0, 1), 8, readers=(2, 1))))
        self.assertEqual(START.run(ANSWERED[:2]), START.done(ANSWERED[0]).done(ANSWERED[1]))
        others = [System(SETUP, without="spread"), System(Setup(2, (0, 1), 9, readers=(2, 1))), START.done(("look", 1)),
                  START.done(("sync",)), START.done(("rise", 1)), START.run((("sync",), ("look", 1))), START.run((("look", 1), ("sync",)))]
        for at, one in enumerate([START] + others):
            for index, other in enumerate([START] + others):
                self.assertIs(one == other, at == index, (at, index))
            for value in ODD:
                self.assertFalse(one == value)

    def test_length_and_text(self):
        run = START.run((("beat", (1, 1, 1)), ("write", 0, DEED), ("again", 0)))
        self.assertEqual((len(run), str(run)), (3, "system of 3 machines, 3 events, 2 letters"))

    def test_instants_of_wrong_machines(self):
        for number in (0, 3, -1, True, None, "1", (1,), 10 ** 60):
            assert_raises(self, errors.InvalidMachine, None, START.instants, number)

    def test_wrong_events(self):
        for event in ODD + [("hand", 0), ("rise", 3), ("nothing",)]:
            assert_raises(self, errors.InvalidEvent, None, START.done, event)
            assert_raises(self, errors.InvalidEvent, None, START.run, (("sync",), event))
        for events in ODD + [[("sync",)], ("sync",), {("sync",): 1}]:
            if events != ():
                assert_raises(self, errors.InvalidEvent, None, START.run, events)
        self.assertEqual(START.run(()), START)

    def test_1500_events_and_one_more(self):
        full = START.run((("sync",), ("look", 1)) * 750)
        self.assertEqual((len(full), len(full.moments), len(full.instants(1))), (1500, 1501, 1501))
        assert_raises(self, errors.TooMany, ("limit", 1500), full.done, ("sync",))
        assert_raises(self, errors.TooMany, ("limit", 1500), START.run, (("sync",),) * 1501)
        # A wrong event is told first, but one that comes later is not.
        assert_raises(self, errors.InvalidEvent, None, full.done, ("hand", 0))
        assert_raises(self, errors.InvalidEvent, None, START.run, (("sync",),) * 1499 + (("rise", 9), ("sync",)))
        assert_raises(self, errors.TooMany, ("limit", 1500), START.run, (("sync",),) * 1501 + (("rise", 9),))


RIGHT = (("beat", (1, 2, 1)), ("look", 0), ("look", 2), ("hand", 0), ("hand", 10 ** 60 - 1), ("sync",), ("fall", 0, ()),
         ("fall", 0, (0, 1000, 7)), ("fall", 2, ()), ("rise", 0), ("rise", 2), ("read", 1, ASKED, 0), ("read", 0, ASKED, 10 ** 6),
         ("write", 1, DEED), ("again", 0), ("drop", 1))
WRONG = (("beat", (1, 2)), ("beat", (1, 2, 1, 1)), ("beat", (1, 3, 1)), ("beat", (0, 1, 1)), ("beat", (True, 1, 1)), ("beat", [1, 1, 1]),
         ("look", 3), ("look", -1), ("look", True), ("look",), ("look", 0, 0), ("hand", -1), ("hand", True), ("hand", 10 ** 60), ("hand", "0"),
         ("sync", 0), ["sync"], "sync", ("fall", 0, (1001,)), ("fall", 0, (-1,)), ("fall", 0, (True,)), ("fall", 0, [1]), ("fall", 1, (1,)),
         ("fall", 1, None), ("fall", 1, []), ("fall", 3, ()), ("fall", 0), ("rise", 3), ("rise", None), ("read", 2, ASKED, 0),
         ("read", 0, ("key", "A"), 0), ("read", 0, ASKED, -1), ("read", 0, ASKED, 10 ** 6 + 1), ("read", 0, ASKED, True), ("read", 0, ASKED),
         ("write", 2, DEED), ("write", 0, ()), ("write", 0, (("a", True),)), ("write", 0, DEED, 0), ("again", 2), ("again", True), ("drop", 2),
         ("drop",), (), ("beats", (1, 1, 1)), ("BEAT", (1, 1, 1)), (None,), (("sync",),))


class IsEventTest(unittest.TestCase):
    def test_right_and_wrong_ones(self):
        for event in RIGHT:
            self.assertIs(is_event(SETUP, event), True, event)
        for event in WRONG + tuple(ODD):
            self.assertIs(is_event(SETUP, event), False, event)

    def test_values_near_right_ones(self):
        for event in RIGHT:
            for value in mutants(event):
                self.assertIs(is_event(SETUP, value), told_is_event(SETUP, value), value)

    def test_drawn_ones(self):
        rng = random.Random(15)
        for _ in range(50):
            setup = some_setup(rng)
            for _ in range(20):
                self.assertIs(is_event(setup, some_event(rng, System(setup))), True)
            self.assertIs(is_event(setup, ("read", 0, some_question(rng, "abc"), 3)), True)
            self.assertIs(is_event(setup, ("write", 0, some_deed(rng, "abc", 3))), True)

    def test_wrong_setups(self):
        for setup in ODD + [None, (2, (0,), 9, 0, 3, (1,))]:
            assert_raises(self, errors.InvalidSetup, None, is_event, setup, ("sync",))
            assert_raises(self, errors.InvalidSetup, None, is_event, setup, None)


def told_is_event(setup, value):
    """Whether a value is an event, told anew for the values near right ones."""
    from wholemoment.store.deeds import is_deed
    from wholemoment.store.questions import is_question

    def number(told, low, high):
        return type(told) is int and low <= told <= high

    if type(value) is not tuple or not value or type(value[0]) is not str:
        return False
    word, rest = value[0], value[1:]
    machines, readers = len(setup.parents) + 1, len(setup.readers)
    forms = {
        "beat": lambda row: type(row) is tuple and len(row) == machines and all(number(told, 1, setup.spread) for told in row),
        "look": lambda m: number(m, 0, machines - 1), "hand": lambda n: number(n, 0, 10 ** 60 - 1), "sync": lambda: True,
        "fall": lambda m, kept: number(m, 0, machines - 1) and type(kept) is tuple and all(number(told, 0, 1000) for told in kept)
        and (m == 0 or not kept),
        "rise": lambda m: number(m, 0, machines - 1),
        "read": lambda j, question, age: number(j, 0, readers - 1) and is_question(question) and number(age, 0, 10 ** 6),
        "write": lambda j, deed: number(j, 0, readers - 1) and is_deed(deed),
        "again": lambda j: number(j, 0, readers - 1), "drop": lambda j: number(j, 0, readers - 1),
    }
    if word not in forms or forms[word].__code__.co_argcount != len(rest):
        return False
    return forms[word](*rest)


if __name__ == "__main__":
    unittest.main()
