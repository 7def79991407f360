"""Texts of runs, and tight runs, stage 20."""

import random
import unittest

from drawn_runs import some_system
from helpers import ODD, assert_raises, mutants
from run_calls import is_some_event
from told_sound import told_faults
from wholemoment import errors
from wholemoment.base.texts import write_plain
from wholemoment.judge.needed import broken_run, system_of
from wholemoment.lend.cache import RULES
from wholemoment.lend.setups import Setup
from wholemoment.run.sound import fault
from wholemoment.run.systems import System, is_event
from wholemoment.text import runs
from wholemoment.text.runs import apart_at, event_line, is_tight, lies_in, read_event, read_run, tight, write_run

ASKED, DEED = ("key", "a"), (("a", 5),)
SYSTEM = System(Setup(2, (0, 1), 9, readers=(2,))).run((("beat", (1, 2, 1)), ("write", 0, DEED), ("look", 0)))
HEAD = "setup 2 0,1 9 0 3 2 -\n"
LINES = (
    (("beat", (1, 2)), "beat 1,2"), (("look", 6), "look 6"), (("hand", 0), "hand 0"), (("hand", 10 ** 60 - 1), "hand " + "9" * 60),
    (("sync",), "sync"), (("fall", 0, (3, 0)), "fall 0 3,0"), (("fall", 0, ()), "fall 0 -"), (("fall", 2, ()), "fall 2 -"),
    (("rise", 1), "rise 1"), (("read", 0, ("sum", ("a",)), 5), "read 0 t2:s3:sumt1:s1:a 5"), (("again", 5), "again 5"), (("drop", 0), "drop 0"),
    (("read", 1, ("number", -7), 10 ** 6), "read 1 t2:s6:numberi-7; 1000000"),
    (("write", 0, (("a", 5), ("b", None))), "write 0 t2:t2:s1:ai5;t2:s1:bn"),
)
WRONG_LINES = (
    "", " ", "look", "look ", " look 0", "look 0 ", "look  0", "look 01", "look -1", "look +1", "look 7", "look 0 0", "look a", "Look 0", "look\t0",
    "beat", "beat -", "beat 1", "beat 1,", "beat ,1", "beat 1,,1", "beat 1 1", "beat 0,1", "beat 7,1", "beat 01,1", "beat 1,1,1,1,1,1,1,1", "hand -",
    "hand " + "9" * 61, "hand 1;", "sync ", "sync 0", "fall 0", "fall 0 ", "fall 0 1001", "fall 0 00", "fall 1 0", "fall 7 -", "fall - -", "rise 1,1",
    "read 0 t2:s3:keys1:a", "read 0 t2:s3:keys1:a 05", "read 0 t2:s3:keys1:a 1000001", "read 6 t2:s3:keys1:a 5", "read 0 n 5", "read 0 i1; 5",
    "read 0 t2:s3:keys1:ai 5", "read 0 t2:s3:keys1:a", "write 0 t0:", "write 0 t1:t2:s1:ai05;", "write 0 t1:t2:s1:A5", "write 6 t1:t2:s1:ai5;",
    "write 0 t1:t2:s1:ai5; ", "again 6", "drop", "setup 2 0,1 9 0 3 2 -", "nothing", "beats 1,1", "look 0\n", "\nlook 0", "look 0\r",
)
DEEP = ("number", 1)
for _ in range(10):
    DEEP = ("plus", ("number", 1), DEEP)


def lacks(events, index):
    return events[:index] + events[index + 1:]


def broken_system(events, like):
    """Whether a run of the setup and the rule of another one can be done and has a fault."""
    system = System(like.setup, without=like.without)
    for event in events:
        if event[0] == "hand" and event[1] >= len(system.bag):
            return False
        system = system.done(event)
    return bool(told_faults(system))


def told_tight(system):
    events = system.events
    return broken_system(events, system) and not any(broken_system(lacks(events, at), system) for at in range(len(events)))


class ExampleTest(unittest.TestCase):
    def test_the_examples(self):
        self.assertEqual(write_run(SYSTEM), "setup 2 0,1 9 0 3 2 -\nbeat 1,2,1\nwrite 0 t1:t2:s1:ai5;\nlook 0\n")
        self.assertEqual([read_run(write_run(SYSTEM)) == SYSTEM, read_event("fall 0 -"), read_event("look 01"), event_line(("rise", 1)), is_tight(SYSTEM)],
                         [True, ("fall", 0, ()), None, "rise 1", False])
        assert_raises(self, errors.ParseError, ("spot", 1), read_run, "setup 2 0,1 9 0 3 2 -\nhand 0\n")
        self.assertEqual(runs.MOST_LINES, 1501)


class LineTest(unittest.TestCase):
    def test_each_event(self):
        for event, line in LINES:
            self.assertEqual((event_line(event), read_event(line)), (line, event))

    def test_wrong_lines(self):
        for line in WRONG_LINES + tuple(ODD):
            self.assertIsNone(read_event(line), line)

    def test_lines_near_right_ones(self):
        """Each line that is read is that of its event."""
        rng, read = random.Random(20), 0
        for event, line in LINES:
            for at in range(len(line)):
                for sign in rng.sample("abz 0129-,:;nits\n", 6) + [""]:
                    for near in (line[:at] + sign + line[at + 1:], line[:at] + sign + line[at:]):
                        told = read_event(near)
                        if told is not None:
                            read += 1
                            self.assertTrue(is_some_event(told))
                            self.assertEqual(event_line(told), near)
        self.assertGreater(read, 200)

    def test_what_is_no_event_has_no_line(self):
        for event, line in LINES:
            for near in mutants(event):
                if is_some_event(near):
                    self.assertEqual(read_event(event_line(near)), near)
                    self.assertNotEqual(event_line(near), line)
                else:
                    assert_raises(self, errors.InvalidEvent, None, event_line, near)
        for value in ODD + ["look 0", ("setup", 2), ("beat", (1,)), ("beat", (1,) * 8), ("beat", (1, 7)), ("look", 7), ("read", 6, ASKED, 0)]:
            assert_raises(self, errors.InvalidEvent, None, event_line, value)

    def test_questions_that_are_nested_too_deep(self):
        event = ("read", 0, DEEP, 0)
        self.assertTrue(is_event(SYSTEM.setup, event))
        assert_raises(self, errors.InvalidValue, None, event_line, event)
        assert_raises(self, errors.InvalidValue, None, write_run, SYSTEM.done(event))
        flat = ("read", 0, DEEP[2], 0)
        self.assertEqual(read_event(event_line(flat)), flat)
        self.assertEqual(read_run(write_run(SYSTEM.done(flat))), SYSTEM.done(flat))
        self.assertIsNone(read_event("read 0 " + write_plain(DEEP[2]).replace("i1;", "t2:s6:numberi1;") + " 0"))


class TextTest(unittest.TestCase):
    def test_drawn_runs(self):
        texts = {}
        for seed in range(60):
            row = some_system(seed, (None, None, RULES[seed % 11])[seed % 3], 50)
            text = write_run(row[-1])
            self.assertEqual(read_run(text), row[-1])
            self.assertEqual(text, "".join([setup_line(row[-1])] + [event_line(event) + "\n" for event in row[-1].events]))
            texts[text] = True
            # A beginning, cut off behind a line, is the text of the run up to there.
            lines = text.split("\n")
            for count in (0, 1, 17, 49):
                self.assertEqual("".join(line + "\n" for line in lines[:count + 1]), write_run(row[count]))
                self.assertEqual(read_run(write_run(row[count])), row[count])
        self.assertEqual(len(texts), 60)

    def test_unlike_runs_have_unlike_texts(self):
        setups = [Setup(2, (0, 1), 9, readers=(2,)), Setup(2, (0, 0), 9, readers=(2,)), Setup(3, (0, 1), 9, readers=(2,)), Setup(2, (0, 1), 8, readers=(2,)),
                  Setup(2, (0, 1), 9, span=3, readers=(2,)), Setup(2, (0, 1), 9, patience=4, readers=(2,)), Setup(2, (0, 1), 9, readers=(2, 2)),
                  Setup(2, (0, 1), 9, readers=(1,))]
        rows = [(), (("sync",),), (("sync",), ("sync",)), (("look", 1),), (("fall", 0, ()),), (("fall", 0, (0,)),), (("fall", 0, (0, 0)),)]
        systems = [System(setup, without=word).run(row) for setup in setups for word in (None, "held", "late") for row in rows]
        self.assertEqual(len({write_run(system) for system in systems}), len(systems))
        for system in systems:
            self.assertEqual(read_run(write_run(system)), system)

    def test_runs_with_equal_answers_can_have_unlike_texts(self):
        """[20.7]"""
        one, other = SYSTEM, SYSTEM.done(("sync",))
        self.assertEqual(one.answers, other.answers)
        self.assertNotEqual(write_run(one), write_run(other))

    def test_wrong_setup_lines(self):
        for line in ("", "setup", "setup 2 0,1 9 0 3 2", "setup 2 0,1 9 0 3 2 none", "setup 2 0,1 9 0 3 2 - ", "setup 7 0,1 9 0 3 2 -",
                     "setup 2 0,2 9 0 3 2 -", "setup 2 1 9 0 3 1 -", "setup 2 - 9 0 3 2 -", "setup 2 0,1 0 0 3 2 -", "setup 2 0,1 201 0 3 2 -",
                     "setup 2 0,1 9 201 3 2 -", "setup 2 0,1 9 0 0 2 -", "setup 2 0,1 9 0 21 2 -", "setup 2 0,1 9 0 3 3 -", "setup 2 0,1 9 0 3 - -",
                     "setup 02 0,1 9 0 3 2 -", "setup 2 0,01 9 0 3 2 -", "setup 2 0,1 9 0 3 2 late,", "setup 2 0,1 9 0 3 2 LATE", "look 0", "Setup 2 0,1 9 0 3 2 -",
                     "setup 2 0, 9 0 3 1 -", "setup  2 0,1 9 0 3 2 -"):
            assert_raises(self, errors.ParseError, ("spot", 0), read_run, line + "\nlook 9\n")

    def test_each_rule_in_the_setup_line(self):
        for word in RULES:
            self.assertEqual(read_run("setup 2 0,1 9 0 3 2 " + word + "\n"), System(SYSTEM.setup, without=word))

    def test_wrong_lines(self):
        for line in WRONG_LINES + ("hand 1", "look 3", "beat 1,1", "beat 1,1,3", "read 1 t2:s3:keys1:a 5", "fall 3 -", "write 1 t1:t2:s1:ai5;"):
            wrong = HEAD + "write 0 t1:t2:s1:ai5;\nlook 0\n" + line + "\nlook 9\n"
            assert_raises(self, errors.ParseError, ("spot", 4 if line == "look 0\n" else 3), read_run, wrong)
        self.assertEqual(len(read_run(HEAD + "write 0 t1:t2:s1:ai5;\nhand 0\n")), 2)

    def test_lines_that_lack_their_newline(self):
        for text, spot in (("", 0), ("x", 0), (HEAD[:-1], 0), (HEAD + "look 0", 1), (HEAD + "look 0\nlook 1", 2), ("\n", 0), (HEAD + "\n", 1),
                           (HEAD + "look 0\n\n", 2), (HEAD + "look 9\nlook 0", 1), (HEAD + " ", 1)):
            assert_raises(self, errors.ParseError, ("spot", spot), read_run, text)
        self.assertEqual(read_run(HEAD), System(SYSTEM.setup))

    def test_1501_lines_and_more(self):
        full = HEAD + "sync\nlook 1\n" * 750
        self.assertEqual(len(read_run(full)), 1500)
        assert_raises(self, errors.TooMany, ("limit", 1501), read_run, full + "sync\n")
        # Behind these lines it is only asked whether the event is one of the setup.
        assert_raises(self, errors.TooMany, ("limit", 1501), read_run, full + "hand 99\n" * 3)
        for line, spot in (("look 9\n", 1501), ("sync\nlook 01\n", 1502), ("sync\nhand 5", 1502), ("hand 5\n\n", 1502)):
            assert_raises(self, errors.ParseError, ("spot", spot), read_run, full + line)
        assert_raises(self, errors.ParseError, ("spot", 1500), read_run, full[:-len("look 1\n")] + "hand 0\nsync\n")

    def test_no_strings(self):
        for value in ODD:
            if type(value) is not str:
                assert_raises(self, errors.ParseError, ("spot", None), read_run, value)
            else:
                assert_raises(self, errors.ParseError, ("spot", 0), read_run, value)
            assert_raises(self, errors.InvalidSystem, None, write_run, value)


def setup_line(system):
    setup = system.setup
    rows = [",".join(map(str, row)) for row in (setup.parents, setup.readers)]
    return f"setup {setup.spread} {rows[0]} {setup.term} {setup.span} {setup.patience} {rows[1]} {system.without or '-'}\n"


class TightTest(unittest.TestCase):
    def test_the_broken_runs(self):
        for word in RULES:
            system = system_of(broken_run(word), without=word)
            found = tight(system)
            self.assertTrue(is_tight(found) and told_tight(found) and lies_in(system, found), word)
            self.assertIs(is_tight(system), told_tight(system))
            self.assertEqual(tight(found), found)

    def test_drawn_runs(self):
        found = 0
        for seed in range(120):
            system = some_system(seed, ("stamp", "late", "held")[seed % 3], 80)[-1]
            self.assertIs(is_tight(system), False)
            if fault(system) is None:
                assert_raises(self, errors.Refused, ("reason", ("sound",)), tight, system)
                continue
            found += 1
            thin = tight(system)
            self.assertTrue(is_tight(thin) and lies_in(system, thin) and fault(thin) is not None)
            if len(thin) < 30:
                self.assertTrue(told_tight(thin))
        self.assertGreater(found, 10)

    def test_what_can_be_taken_away_only_behind_other_events(self):
        for word, seed in (("stamp", 83), ("stamp", 103), ("late", 27)):
            self.assertTrue(is_tight(tight(some_system(seed, word, 80)[-1])))

    def test_runs_near_tight_ones(self):
        rng = random.Random(21)
        for word in ("held", "late", "fence", "ceiling"):
            thin = tight(system_of(broken_run(word), without=word))
            events = thin.events
            rows = [lacks(events, at) for at in range(len(events))]
            for at in range(len(events) + 1):
                rows.append(events[:at] + (rng.choice((("look", 0), ("sync",), ("drop", 0), ("rise", 1))),) + events[at:])
                rows.append(events[:at] + events[at + 1:at + 2] + events[at:at + 1] + events[at + 2:])
            for row in rows:
                system = system_at(thin, row)
                if system is not None:
                    self.assertIs(is_tight(system), told_tight(system), (word, row))

    def test_what_is_none(self):
        for value in ODD + [SYSTEM, SYSTEM.events, None, System(SYSTEM.setup, without="held")]:
            self.assertIs(is_tight(value), False)
        for value in ODD:
            assert_raises(self, errors.InvalidSystem, None, tight, value)
        assert_raises(self, errors.Refused, ("reason", ("sound",)), tight, SYSTEM)

    def test_a_tight_run_is_not_the_shortest_one(self):
        """[20.7]: two faults one behind the other, of which the earlier one takes fewer events."""
        for word in RULES:
            system = system_of(broken_run(word), without=word)
            self.assertLessEqual(len(tight(system)), len(system))


def system_at(like, events):
    system = System(like.setup, without=like.without)
    for event in events:
        if event[0] == "hand" and event[1] >= len(system.bag):
            return None
        system = system.done(event)
    return system


class LiesTest(unittest.TestCase):
    def test_rows_of_events(self):
        rng = random.Random(22)
        for seed in range(20):
            system = some_system(seed, None, 12)[-1]
            for _ in range(20):
                some = tuple(event for event in system.events if rng.random() < 0.7)
                other = system_at(system, rng.choice((some, some[::-1], some + some[:1])))
                if other is not None:
                    self.assertIs(lies_in(system, other), is_within(other.events, system.events))
        self.assertEqual((lies_in(SYSTEM, SYSTEM), lies_in(SYSTEM, System(SYSTEM.setup)), lies_in(System(SYSTEM.setup), SYSTEM)), (True, True, False))

    def test_setup_and_rule(self):
        for other in (System(SYSTEM.setup, without="held"), System(Setup(2, (0, 1), 8, readers=(2,)))):
            self.assertIs(lies_in(SYSTEM, other), False)
            self.assertIs(lies_in(other, SYSTEM), False)
        for value in ODD:
            self.assertIs(lies_in(SYSTEM, value), False)
            assert_raises(self, errors.InvalidSystem, None, lies_in, value, SYSTEM)


def is_within(some, events):
    rest = iter(events)
    return all(any(event == other for other in rest) for event in some)


class ApartTest(unittest.TestCase):
    def test_drawn_systems(self):
        rng, found = random.Random(23), 0
        for seed in range(60):
            row = some_system(seed, (None, "held")[seed % 2], 50)
            at = rng.randrange(50)
            other = row[at]
            for event in row[-1].events[at:]:
                event = rng.choice((event, event, ("sync",)))
                if event[0] != "hand" or event[1] < len(other.bag):
                    other = other.done(event)
            for one, two in ((row[-1], other), (other, row[-1]), (row[-1], row[at]), (row[at], row[at])):
                told = (first_unlike(one.events, two.events), first_unlike(one.answers, two.answers))
                self.assertEqual(apart_at(one, two), told)
                # Equal answers up to the least event at which they have unlike ones.
                if told[0] is not None:
                    early = [[answer for answer in system.answers if answer[0] <= told[0]] for system in (one, two)]
                    self.assertEqual(early[0], early[1])
                found += told[1] is not None
        self.assertGreater(found, 10)

    def test_edges(self):
        self.assertEqual((apart_at(SYSTEM, SYSTEM), apart_at(SYSTEM, SYSTEM.done(("sync",)))), ((None, None), (3, None)))
        start = System(SYSTEM.setup)
        told = start.done(("read", 0, ("number", 1), 0))
        self.assertEqual((apart_at(start, told), apart_at(told, start), apart_at(told, start.done(("sync",)))), ((0, 0), (0, 0), (0, 0)))

    def test_wrong_arguments(self):
        for value in ODD:
            assert_raises(self, errors.InvalidSystem, None, apart_at, value, System(Setup(2, (0,), 9)))
            assert_raises(self, errors.InvalidSystem, None, apart_at, SYSTEM, value)
        for other in (System(SYSTEM.setup, without="held"), System(Setup(2, (0, 1), 8, readers=(2,)))):
            assert_raises(self, errors.InvalidOperation, None, apart_at, SYSTEM, other)


def first_unlike(one, other):
    for index in range(max(len(one), len(other))):
        if one[index:index + 1] != other[index:index + 1]:
            return index
    return None


if __name__ == "__main__":
    unittest.main()
