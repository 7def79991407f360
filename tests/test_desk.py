"""A desk, stage 21."""

import random
import unittest

from drawn_runs import some_event, some_setup
from helpers import ODD, assert_raises, mutants
from run_calls import is_stop
from told_sound import told_papers, told_shown
from wholemoment import errors
from wholemoment.house import desk
from wholemoment.house.desk import Desk
from wholemoment.lend.cache import RULES
from wholemoment.lend.setups import Setup
from wholemoment.run.systems import System
from wholemoment.store.deeds import History, behind
from wholemoment.store.questions import keys_of

SETUP = Setup(2, (0,), 20)
ASKED, DEED = ("key", "a"), (("a", 7),)
ROW = (("beat", (1, 1)), ("write", 0, DEED), ("hand", 0), ("sync",), ("hand", 1), ("read", 0, ASKED, 5), ("hand", 2), ("sync",), ("hand", 3))


def desk_with(*stops, setup=SETUP, without=None):
    made = Desk(setup, without=without)
    for stop in stops:
        made.stop(stop)
    return made


def is_so(system, stop):
    """What a stop tells, told anew."""
    word = stop[0]
    if word == "answers":
        return sum(answer[1] == stop[1] for answer in system.answers) >= stop[2]
    if word == "writes":
        reader = system.readers[stop[1]]
        return reader.write_number - (reader.open_write is not None) >= stop[2]
    if word == "moment":
        return len(system.deeds) >= stop[1]
    if word == "value":
        return behind(system.deeds).get(stop[1]) == stop[2]
    if word == "copy":
        cache = system.caches[stop[1]]
        return cache is not None and stop[2] in cache.shelf and cache.shelf.kept(stop[2]).is_true(system.clocks[stop[1]])
    return (system.origin if stop[1] == 0 else system.caches[stop[1]]) is None


def told_do(system, stops, events):
    """How many events are done, and the index of the stop that meets."""
    for count, event in enumerate(events, start=1):
        late = system.done(event)
        met = [index for index, stop in enumerate(stops) if is_so(late, stop) and not is_so(system, stop)]
        if met:
            return count, met[0]
        system = late
    return len(events), None


def parts(made):
    return (made.system, made.history, made.stops, made.calls, len(made), str(made))


class ExampleTest(unittest.TestCase):
    def test_the_examples(self):
        made = Desk(Setup(2, (0,), 20))
        self.assertEqual([made.stop(("answers", 0, 1)), made.do(ROW), made.page(0), made.moments_of(0), str(made)],
                         [1, (9, 0), {"a": 7}, ((1, 1),), "desk of 9 events, 1 stops, 2 calls"])
        self.assertEqual([made.first(("moment", 1)), made.first(("writes", 0, 1)), made.first(("copy", 1, "a")), made.first(("down", 0))],
                         [3, 4, 8, None])
        self.assertEqual((desk.MOST_CALLS, desk.MOST_STOPS), (200, 20))


class DoTest(unittest.TestCase):
    def test_the_first_system(self):
        for word in (None,) + RULES:
            made = Desk(SETUP, without=word)
            self.assertEqual(parts(made), (System(SETUP, without=word), History(()), (), (), 0, "desk of 0 events, 0 stops, 0 calls"))
        for setup in ODD:
            assert_raises(self, errors.InvalidSetup, None, lambda value: Desk(value, without="nothing"), setup)
        for word in ODD:
            if word is not None:
                assert_raises(self, errors.InvalidOperation, None, lambda value: Desk(SETUP, without=value), word)

    def test_without_stops_all_is_done(self):
        made = Desk(SETUP)
        self.assertEqual((made.do(ROW[:5]), made.do(ROW[5:]), made.do(())), ((5, None), (4, None), (0, None)))
        self.assertEqual(made.system, System(SETUP).run(ROW))
        self.assertEqual((made.calls, made.history), ((("do", ROW[:5]), ("do", ROW[5:])), History((DEED,))))

    def test_do_in_two_pieces_is_do_at_once(self):
        """[21.3]"""
        for at in range(len(ROW) + 1):
            one, other = Desk(SETUP), Desk(SETUP)
            one.do(ROW[:at])
            one.do(ROW[at:])
            other.do(ROW)
            self.assertEqual((one.system, one.history, one.stops), (other.system, other.history, other.stops))
            self.assertIs(one == other, at in (0, len(ROW)))

    def test_a_halt(self):
        made = desk_with(("down", 0), ("moment", 1), ("value", "a", 7))
        self.assertEqual((made.do(ROW), made.system, made.calls[-1]), ((4, 1), System(SETUP).run(ROW[:4]), ("do", ROW[:4])))
        # It goes on from there: what is so already does not meet again.
        self.assertEqual((made.do(ROW[4:]), made.system), ((5, None), System(SETUP).run(ROW)))
        self.assertEqual((made.do((("sync",), ("fall", 0, ()), ("sync",))), len(made.system)), ((2, 0), 11))

    def test_events_that_cannot_be_done(self):
        made = desk_with(("moment", 1))
        before = parts(made)
        for events in ODD + [[("sync",)], ("sync",), ROW + (None,), (("rise", 2),), (("beat", (1, 3)),), ROW + (("hand", -1),)]:
            if events != ():
                assert_raises(self, errors.InvalidEvent, None, made.do, events)
        assert_raises(self, errors.InvalidEvent, None, made.do, ROW[:2] + (("hand", 1),))
        assert_raises(self, errors.InvalidEvent, None, made.do, ROW[:3] + (("hand", 9),) + ROW[3:])
        self.assertEqual(parts(made), before)
        # What would come behind the halt is not done, so its letters need not be there.
        self.assertEqual(made.do(ROW[:4] + (("hand", 9),)), (4, 0))

    def test_1500_events_and_one_more(self):
        made = Desk(SETUP)
        self.assertEqual(made.do((("sync",),) * 1499), (1499, None))
        before = parts(made)
        assert_raises(self, errors.TooMany, ("limit", 1500), made.do, (("sync",), ("look", 1)))
        assert_raises(self, errors.InvalidEvent, None, made.do, (("sync",), ("hand", 0)))
        assert_raises(self, errors.InvalidEvent, None, made.do, (("sync",), ("look", 1), ("look", 2)))
        self.assertEqual(parts(made), before)
        made.stop(("down", 1))
        self.assertEqual(made.do((("fall", 1, ()), ("look", 1), ("hand", 0))), (1, 0))
        assert_raises(self, errors.TooMany, ("limit", 1500), made.do, (("sync",),))
        self.assertEqual((made.do(()), len(made.behind(1500))), ((0, None), 1500))

    def test_200_calls_and_one_more(self):
        made = Desk(SETUP)
        for number in range(200):
            if number % 3 == 0:
                made.do((("sync",),))
            elif number % 3 == 1:
                made.stop(("moment", number))
            else:
                made.unstop(("moment", number - 1))
        before = parts(made)
        self.assertEqual(len(made), 200)
        assert_raises(self, errors.TooMany, ("limit", 200), made.do, (("sync",),))
        assert_raises(self, errors.TooMany, ("limit", 200), made.stop, ("down", 0))
        assert_raises(self, errors.TooMany, ("limit", 200), made.unstop, ("moment", 199))
        # What else is wrong is told first.
        assert_raises(self, errors.InvalidEvent, None, made.do, (("hand", 0),))
        assert_raises(self, errors.UnknownName, ("wanted", ("down", 0)), made.unstop, ("down", 0))
        assert_raises(self, errors.Refused, ("reason", ("twice",)), made.stop, made.stops[0]) if made.stops else None
        self.assertEqual(parts(made), before)
        made.undo()
        self.assertEqual((made.stop(("down", 0)) > 0, len(made)), (True, 200))


class StopTest(unittest.TestCase):
    def check(self, stop, events, at, setup=SETUP):
        """The stop meets at the event with this index, and at none ahead of it."""
        made = desk_with(stop, setup=setup)
        self.assertEqual(made.do(events), (len(events), None) if at is None else (at + 1, 0), stop)
        self.assertEqual(made.first(stop), at)
        self.assertEqual(made.do(events[at + 1:])[0] if at is not None else 0, len(events) - at - 1 if at is not None else 0)

    def test_each_stop(self):
        self.check(("answers", 0, 1), ROW, 8)
        self.check(("answers", 0, 2), ROW, None)
        self.check(("answers", 0, 2), ROW + (("read", 0, ASKED, 5),), 9)
        self.check(("answers", 0, 3), ROW + (("read", 0, ASKED, 5), ("sync",), ("read", 0, ("number", 1), 5)), 11)
        self.check(("writes", 0, 1), ROW, 4)
        self.check(("writes", 0, 2), ROW, None)
        self.check(("moment", 0), ROW, None)
        self.check(("moment", 1), ROW, 3)
        self.check(("moment", 2), ROW, None)
        self.check(("value", "a", 7), ROW, 3)
        self.check(("value", "a", 8), ROW, None)
        self.check(("value", "a", None), ROW, None)
        self.check(("copy", 1, "a"), ROW, 8)
        self.check(("copy", 1, "b"), ROW, None)
        self.check(("down", 1), ROW + (("fall", 0, ()), ("fall", 1, ())), 10)
        self.check(("down", 0), ROW + (("fall", 1, ()), ("fall", 0, (5,))), 10)

    def test_what_is_so_again_meets_again(self):
        made = desk_with(("value", "a", None), ("copy", 1, "a"), ("down", 1))
        self.assertEqual(made.do(ROW), (9, 1))
        # The copy is over by a beat, and there is no deed without "a" yet.
        self.assertEqual(made.do((("beat", (2, 2)),) * 11), (11, None))
        self.assertEqual(made.do((("write", 0, (("a", None),)), ("hand", 4), ("sync",), ("sync",))), (3, 0))
        self.assertEqual(made.do((("fall", 1, ()), ("sync",))), (1, 2))
        self.assertEqual(made.do((("fall", 1, ()), ("rise", 1), ("fall", 1, ()))), (3, 2))
        self.assertEqual((made.first(("value", "a", None)), made.first(("down", 1)), made.first(("copy", 1, "a"))), (22, 23, 8))

    def test_a_copy_does_not_meet_at_each_grant(self):
        """[21.5]: a grant lengthens a copy that is true already."""
        made = Desk(SETUP)
        made.do(ROW + (("beat", (1, 1)), ("hand", 2), ("sync",)))
        made.stop(("copy", 1, "a"))
        self.assertEqual(made.do((("hand", 4),)), (1, None))

    def test_two_deeds_at_once(self):
        """A stop "moment" meets at most once, also where the history grows by two."""
        setup = Setup(2, (0,), 20, readers=(1, 1))
        events = (("write", 0, DEED), ("write", 1, (("b", 1),)), ("hand", 0), ("hand", 1), ("sync",), ("sync",))
        for number in (1, 2):
            self.check(("moment", number), events, 4, setup)
        made = desk_with(("moment", 2), ("moment", 1), setup=setup)
        self.assertEqual((made.do(events), made.do(events[5:])), ((5, 0), (1, None)))

    def test_drawn_runs(self):
        rng, halts = random.Random(21), {}
        for _ in range(60):
            setup = some_setup(rng)
            made = desk_with(*some_stops(rng, setup), setup=setup)
            for _ in range(12):
                events, system = [], made.system
                for _ in range(rng.randrange(1, 12)):
                    events.append(some_event(rng, system, is_mild=True))
                    system = system.done(events[-1])
                told, early = told_do(made.system, made.stops, events), made.system
                self.assertEqual(made.do(tuple(events)), told)
                self.assertEqual(made.system, early.run(tuple(events[:told[0]])))
                if told[1] is not None:
                    word = made.stops[told[1]][0]
                    halts[word] = halts.get(word, 0) + 1
            self.check_first(made)
        self.assertEqual(sorted(halts), ["answers", "copy", "down", "moment", "value", "writes"])

    def check_first(self, made):
        systems = [made.behind(many) for many in range(len(made.system) + 1)]
        self.assertEqual(systems[-1], made.system)
        self.assertEqual(systems[0], System(made.system.setup))
        for stop in made.stops + (("moment", 3), ("down", 0)):
            met = [at for at in range(len(made.system)) if is_so(systems[at + 1], stop) and not is_so(systems[at], stop)]
            self.assertEqual(made.first(stop), met[0] if met else None)

    def test_stop_and_unstop(self):
        made = Desk(SETUP)
        self.assertEqual([made.stop(("moment", number)) for number in (5, 3, 4)], [1, 2, 3])
        self.assertEqual((made.unstop(("moment", 3)), made.stops), (2, (("moment", 5), ("moment", 4))))
        self.assertEqual((made.stop(("moment", 3)), made.stops), (3, (("moment", 5), ("moment", 4), ("moment", 3))))
        self.assertEqual([call[0] for call in made.calls], ["stop", "stop", "stop", "unstop", "stop"])
        self.assertEqual((made.calls[3], len(made), made.system), (("unstop", ("moment", 3)), 5, System(SETUP)))
        assert_raises(self, errors.Refused, ("reason", ("twice",)), made.stop, ("moment", 4))
        assert_raises(self, errors.UnknownName, ("wanted", ("moment", 9)), made.unstop, ("moment", 9))

    def test_20_stops_and_one_more(self):
        made = desk_with(*[("moment", number) for number in range(20)])
        before = parts(made)
        assert_raises(self, errors.TooMany, ("limit", 20), made.stop, ("moment", 20))
        assert_raises(self, errors.Refused, ("reason", ("twice",)), made.stop, ("moment", 7))
        self.assertEqual(parts(made), before)
        made.unstop(("moment", 7))
        self.assertEqual(made.stop(("moment", 20)), 20)

    def test_which_values_are_stops(self):
        made = Desk(SETUP)
        right = [("answers", 0, 1), ("writes", 0, 10 ** 60 - 1), ("moment", 0), ("value", "abc", None), ("value", "a", -(10 ** 12 - 1)), ("copy", 1, "a"),
                 ("down", 0), ("down", 1)]
        wrong = [("answers", 1, 1), ("answers", 0, 0), ("answers", 0, True), ("answers", False, 1), ("answers", 0), ("writes", 0, 0), ("writes", 1, 1),
                 ("writes", 0, 10 ** 60), ("moment", -1), ("moment", True), ("moment", None), ("value", "A", 1), ("value", "a", True), ("value", "a", 10 ** 12),
                 ("value", "a"), ("copy", 0, "a"), ("copy", 2, "a"), ("copy", 1, ""), ("down", 2), ("down", -1), ("down", True), ("down",), ("stop", 1),
                 ["down", 0], "down", ()]
        for stop in right:
            for value in [stop] + list(mutants(stop)):
                self.check_stop(made, value)
        for value in wrong + ODD:
            self.assertFalse(is_stop(value), value)
            self.check_stop(made, value)

    def check_stop(self, made, value):
        if is_stop(value):
            twin = made.twin()
            self.assertEqual((value in twin, twin.stop(value), value in twin, value in made), (False, 1, True, False))
            self.assertIsNone(twin.first(value))
        else:
            for call in (made.stop, made.unstop, made.first):
                assert_raises(self, errors.InvalidOperation, None, call, value)
            self.assertIs(value in made, False)


def some_stops(rng, setup):
    stops = [("answers", rng.randrange(len(setup.readers)), rng.randrange(1, 3)), ("writes", 0, rng.randrange(1, 3)), ("moment", rng.randrange(4)),
             ("value", "a", None), ("copy", rng.randrange(1, setup.machines), rng.choice("ab")), ("down", rng.randrange(setup.machines))]
    rng.shuffle(stops)
    return stops


class UndoTest(unittest.TestCase):
    def some_desk(self):
        made = desk_with(("moment", 1), ("down", 0))
        made.do(ROW[:2])
        made.do(ROW[2:])
        made.unstop(("moment", 1))
        made.do(ROW[4:])
        made.stop(("moment", 1))
        made.unstop(("down", 0))
        return made

    def test_one_by_one(self):
        made, row = self.some_desk(), []
        twin = Desk(SETUP)
        for call in made.calls:
            row.append(parts(twin))
            getattr(twin, call[0])(call[1])
        self.assertEqual(parts(twin), parts(made))
        for left in reversed(range(len(row))):
            self.assertEqual(made.undo(), left)
            self.assertEqual(parts(made), row[left])
            self.assertEqual([made.behind(many) for many in range(len(made.system) + 1)][-1], made.system)
        self.assertEqual(made, Desk(SETUP))

    def test_together(self):
        for calls in range(1, 9):
            one, other = self.some_desk(), self.some_desk()
            self.assertEqual(one.undo(calls=calls), 8 - calls)
            for _ in range(calls):
                other.undo()
            self.assertEqual(parts(one), parts(other))

    def test_what_cannot_be_undone(self):
        made = self.some_desk()
        before = parts(made)
        for calls in (9, 10 ** 60 - 1):
            assert_raises(self, errors.NothingToUndo, ("wanted", calls), lambda value: made.undo(calls=value), calls)
        for calls in (0, -1, True, None, "1", (1,), 10 ** 60):
            assert_raises(self, errors.InvalidNumber, ("given", calls), lambda value: made.undo(calls=value), calls)
        self.assertEqual(parts(made), before)
        assert_raises(self, errors.NothingToUndo, ("wanted", 1), Desk(SETUP).undo)

    def test_it_goes_on_from_there(self):
        made = self.some_desk()
        made.undo(calls=4)
        self.assertEqual((made.system, made.stops), (System(SETUP).run(ROW[:4]), (("moment", 1), ("down", 0))))
        self.assertEqual((made.do((("fall", 0, ()),)), len(made.behind(5))), ((1, 1), 5))
        self.assertIsNone(made.behind(5).origin)

    def test_drawn_walks(self):
        rng = random.Random(22)
        for _ in range(20):
            setup = some_setup(rng)
            made, row = Desk(setup), []
            for _ in range(25):
                before = parts(made)
                act = rng.random()
                if act < 0.5:
                    made.do((some_event(rng, made.system),))
                elif act < 0.7:
                    stop = rng.choice([stop for stop in some_stops(rng, setup) if stop not in made] or [None])
                    made.stop(stop) if stop is not None else made.do((("sync",),))
                elif act < 0.8 and made.stops:
                    made.unstop(rng.choice(made.stops))
                elif row:
                    many = rng.randrange(1, min(4, len(row)) + 1)
                    self.assertEqual(made.undo(calls=many), len(row) - many)
                    self.assertEqual(parts(made), row[-many])
                    del row[-many:]
                    continue
                else:
                    continue
                row.append(before)


class AnswerTest(unittest.TestCase):
    def test_pages_and_moments(self):
        rng, checked, several = random.Random(23), 0, 0
        for seed in range(50):
            setup = some_setup(rng)
            made = Desk(setup)
            known = {}
            for step in range(160):
                made.do((some_event(rng, made.system, is_mild=True),))
                if step % 8 == 0 or step == 159:
                    for index in range(len(made.system.answers)):
                        page, moments = made.page(index), made.moments_of(index)
                        self.check_answer(made.system, index, page, moments)
                        self.check_growth(known.get(index), page, moments)
                        known[index] = (page, moments)
                        checked += 1
                        several += len(moments) > 1
        self.assertGreater(min(checked, several * 10), 200)

    def check_answer(self, system, index, page, moments):
        answer = system.answers[index]
        papers = told_papers(system, answer)
        state = behind(system.deeds[:papers[0][1]])
        self.assertEqual(page, {key: state.get(key) for key in keys_of(answer[5])})
        self.assertEqual(list(page), sorted(page))
        stands = [all(behind(system.deeds[:moment]).get(key) == value for key, value in page.items()) for moment in range(len(system.deeds) + 1)]
        self.assertEqual([any(low <= moment <= high for low, high in moments) for moment in range(len(stands))], stands)
        # [21.4]: one of them stood at an instant that the answer tells.
        self.assertTrue(any(low <= papers[0][1] <= high for low, high in moments))
        self.assertTrue(told_shown(system, answer[3], papers[0][0]))

    def check_growth(self, before, page, moments):
        if before is not None:
            self.assertEqual(before[0], page)
            self.assertEqual(before[1][:-1], moments[:len(before[1]) - 1])
            last, now = before[1][-1], moments[len(before[1]) - 1]
            self.assertTrue(last[0] == now[0] and last[1] <= now[1])

    def test_moments_need_not_be_neighbours(self):
        """[21.5]"""
        made = Desk(SETUP)
        made.do((("read", 0, ASKED, 5), ("hand", 0), ("sync",), ("hand", 1)))
        for value in (5, None):
            letter = len(made.system.bag)
            made.do((("beat", (1, 1)),) * 21 + (("write", 0, (("a", value),)), ("hand", letter), ("sync",), ("hand", letter + 1)))
        self.assertEqual((made.page(0), made.moments_of(0), len(made.history)), ({"a": None}, ((0, 0), (2, 2)), 2))

    def test_the_first_time_is_told(self):
        """While the instant of the answer lasts another deed comes: the page is that of the first time."""
        made = Desk(Setup(2, (0,), 20), without="ceiling")
        made.do((("read", 0, ASKED, 5), ("hand", 0), ("sync",), ("hand", 1), ("fall", 0, ()), ("rise", 0), ("write", 0, DEED), ("hand", 2), ("sync",)))
        self.assertEqual((made.system.deeds, made.page(0), made.moments_of(0)), ((DEED,), {"a": None}, ((0, 0),)))

    def test_without_held_the_page_is_that_of_the_store(self):
        made = Desk(SETUP, without="held")
        made.do((("read", 0, ASKED, 5), ("write", 0, DEED), ("hand", 1), ("hand", 0), ("hand", 3)))
        self.assertEqual((made.system.answers[0][7], made.page(0), made.moments_of(0)), (7, {"a": None}, ((0, 0),)))

    def test_wrong_indices(self):
        made = Desk(SETUP)
        made.do(ROW)
        for index in (-1, 1, True, None, "0", 10 ** 60):
            assert_raises(self, errors.InvalidNumber, ("given", index), made.page, index)
            assert_raises(self, errors.InvalidNumber, ("given", index), made.moments_of, index)
        assert_raises(self, errors.InvalidNumber, ("given", 0), Desk(SETUP).page, 0)
        assert_raises(self, errors.InvalidNumber, ("given", 0), Desk(SETUP).moments_of, 0)

    def test_behind(self):
        made = Desk(SETUP)
        made.do(ROW)
        for many in range(10):
            self.assertEqual(made.behind(many), System(SETUP).run(ROW[:many]))
        for many in (-1, 10, True, None, "1", 10 ** 60):
            assert_raises(self, errors.InvalidNumber, ("given", many), made.behind, many)


class ObjectTest(unittest.TestCase):
    def test_twins_change_apart(self):
        made = desk_with(("down", 0))
        made.do(ROW[:3])
        before = parts(made)
        twin = made.twin()
        self.assertEqual(parts(twin), before)
        self.assertTrue(twin == made and twin is not made)
        twin.do(ROW[3:])
        twin.unstop(("down", 0))
        self.assertEqual(parts(made), before)
        self.assertNotEqual(twin, made)
        after = parts(twin)
        self.assertEqual(made.undo(calls=2), 0)
        self.assertEqual((parts(twin), twin.undo(calls=3)), (after, 1))
        self.assertEqual((len(twin), twin.stops, twin.system, parts(made)), (1, (("down", 0),), System(SETUP), parts(Desk(SETUP))))

    def test_equal_desks(self):
        row = [Desk(SETUP), Desk(SETUP, without="held"), Desk(Setup(2, (0,), 19)), desk_with(("down", 0)), desk_with(("down", 1)),
               desk_with(("down", 0), ("down", 1)), desk_with(("down", 1), ("down", 0)), Desk(SETUP)]
        row[-1].do((("sync",),))
        undone = desk_with(("down", 0))
        undone.unstop(("down", 0))
        row.append(undone)
        for at, one in enumerate(row):
            for index, other in enumerate(row):
                self.assertIs(one == other, at == index, (at, index))
                self.assertIs(one != other, at != index)
            for value in ODD:
                self.assertFalse(one == value)

    def test_membership_length_and_text(self):
        made = desk_with(("moment", 1), ("down", 0))
        self.assertTrue(("moment", 1) in made and ("down", 0) in made)
        for value in (("moment", True), ("down", False), ("down", 1), ["down", 0]) + tuple(ODD):
            self.assertIs(value in made, False)
        made.do(ROW[:2])
        self.assertEqual((len(made), str(made)), (3, "desk of 2 events, 2 stops, 3 calls"))


if __name__ == "__main__":
    unittest.main()
