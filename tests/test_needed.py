"""Each rule is needed, stage 18."""

import random
import unittest

from drawn_runs import some_system
from helpers import ODD, assert_raises, mutants
from run_calls import is_run as told_is_run
from told_sound import told_faults
from wholemoment import errors
from wholemoment.judge import needed
from wholemoment.judge.needed import broken_run, is_broken_run, is_run, parting, system_of, what_breaks
from wholemoment.lend import cache
from wholemoment.lend.setups import Setup
from wholemoment.run.systems import System

RULES = cache.RULES
ASKED, DEED = ("key", "a"), (("a", 5),)
TOLD = (2, (0,), 12, 0, 3, (1,))
SHORT = (TOLD, (("read", 0, ASKED, 0), ("hand", 0), ("hand", 1)))


def told_of(setup):
    return (setup.spread, setup.parents, setup.term, setup.span, setup.patience, setup.readers)


def system_at(run, count, without=None):
    """The system behind the first events of a run, None if a letter is not there."""
    spread, parents, term, span, patience, readers = run[0]
    system = System(Setup(spread, parents, term, span=span, patience=patience, readers=readers), without=without)
    for event in run[1][:count]:
        if event[0] == "hand" and event[1] >= len(system.bag):
            return None
        system = system.done(event)
    return system


def told_parts(system):
    """All of a system but for the words of what is left out."""
    machines = []
    for machine in [system.origin] + [system.caches[number] for number in sorted(system.caches)]:
        machines.append(None if machine is None else {name: told for name, told in vars(machine).items() if name != "without"})
    return (system.setup, system.clocks, machines, system.disk, system.bag, system.readers, system.deeds, system.answers, system.events)


class ExampleTest(unittest.TestCase):
    def test_the_examples(self):
        self.assertEqual([is_run(SHORT), is_run(SHORT[1]), len(RULES)], [True, False, 11])
        self.assertEqual([is_broken_run(word, broken_run(word)) for word in RULES], [True] * 11)
        self.assertEqual([what_breaks(SHORT, without="held"), parting(SHORT, "held")], [None, 2])
        assert_raises(self, errors.Refused, ("reason", ("letter", 2)), system_of, SHORT)
        assert_raises(self, errors.UnknownName, ("wanted", "leases"), broken_run, "leases")

    def test_constants(self):
        self.assertEqual(needed.MOST_EVENTS, 400)
        self.assertEqual(needed.RULES, ("spread", "stamp", "fence", "since", "wait", "below", "within", "common", "late", "ceiling", "held"))


class BrokenRunTest(unittest.TestCase):
    def test_for_each_rule(self):
        for word in RULES:
            run = broken_run(word)
            self.assertTrue(is_run(run) and told_is_run(run), word)
            self.assertTrue(is_broken_run(word, run), word)
            system = system_of(run, without=word)
            self.assertEqual((system.without, told_of(system.setup), system.events), (word,) + run)
            self.assertEqual(what_breaks(run, without=word), told_faults(system)[0])
            # [0.19]: an answer whose page did not stand.
            self.assertEqual(told_faults(system)[0][0], "answer", word)

    def test_none_breaks_with_all_rules(self):
        for word in RULES:
            self.assertIsNone(what_breaks(broken_run(word)), word)
            self.assertEqual(told_faults(system_of(broken_run(word))), [])

    def test_what_each_one_tells(self):
        """[18.5]"""
        systems = {word: system_of(broken_run(word), without=word) for word in RULES}
        wrong = {word: systems[word].answers[told_faults(systems[word])[0][1]] for word in RULES}
        for word, answer in wrong.items():
            self.assertEqual(answer[7], {"held": 5, "common": 6}.get(word, 0), word)
            self.assertEqual(systems[word].deeds, {"held": (), "common": ((("a", 5), ("b", 6)),)}.get(word, (DEED,)), word)
        self.assertEqual([word for word in RULES if ("fall", 1, ()) in systems[word].events], ["since", "wait"])
        self.assertEqual([word for word in RULES if ("fall", 0, ()) in systems[word].events], ["ceiling", "held"])
        self.assertEqual([word for word in RULES if any(letter[0] == "back" for letter in systems[word].bag.letters)],
                         ["fence", "since", "wait", "below"])

    def test_other_rules_left_out_do_not_break_each_run(self):
        """[18.7]"""
        broken = [(word, other) for word in RULES for other in RULES if is_broken_run(other, broken_run(word))]
        self.assertLessEqual({(word, word) for word in RULES} | {("stamp", "late"), ("late", "stamp")}, set(broken))
        self.assertLess(len(broken), 30)

    def test_a_rule_is_needed_with_the_spread_1_too(self):
        """[18.7]"""
        self.assertEqual([broken_run(word)[0][0] for word in RULES], [2] + [1] * 10)

    def test_a_run_without_an_answer_can_break(self):
        """[18.7]: the copy of a key that was asked for and is not true any more, as its read was dropped."""
        events = (("read", 0, ASKED, 0), ("drop", 0), ("hand", 0), ("sync",), ("hand", 1)) + (("beat", (2, 1)),) * 3
        run = ((2, (0,), 4, 0, 3, (1,)), events + (("write", 0, DEED), ("hand", 2), ("sync",)))
        self.assertEqual((system_of(run, without="spread").answers, what_breaks(run, without="spread")), ((), ("copy", 1, "a")))
        self.assertIs(is_broken_run("spread", run), True)

    def test_wrong_words(self):
        for word in ODD + ["spreads", "SPREAD", "spread ", ("spread",), ["spread"]]:
            assert_raises(self, errors.UnknownName, ("wanted", word), broken_run, word)
            assert_raises(self, errors.UnknownName, ("wanted", word), is_broken_run, word, broken_run("late"))
            assert_raises(self, errors.UnknownName, ("wanted", word), parting, SHORT, word)
            if word is not None:
                assert_raises(self, errors.UnknownName, ("wanted", word), lambda value: system_of(SHORT, without=value), word)
                assert_raises(self, errors.UnknownName, ("wanted", word), lambda value: what_breaks(SHORT, without=value), word)


class JudgeTest(unittest.TestCase):
    def test_runs_near_broken_ones(self):
        rng = random.Random(18)
        words = {True: 0, False: 0}
        for word in RULES:
            told, events = broken_run(word)
            for near in rows_near(rng, events):
                run = (told, near)
                system = system_at(run, len(near), word)
                is_right = system is not None and bool(told_faults(system))
                self.assertIs(is_broken_run(word, run), is_right, (word, near))
                words[is_right] += 1
        self.assertGreater(min(words.values()), 60)

    def test_values_near_broken_runs(self):
        for word in ("held", "late"):
            for value in list(mutants(broken_run(word))) + ODD + [SHORT, None]:
                right = told_is_run(value)
                self.assertIs(is_run(value), right, value)
                if not right:
                    self.assertIs(is_broken_run(word, value), False, value)

    def test_drawn_runs(self):
        found = 0
        for seed in range(120):
            word = ("stamp", "late", "held")[seed % 3]
            system = some_system(seed, word, 80)[-1]
            run = (told_of(system.setup), system.events)
            self.assertIs(is_broken_run(word, run), bool(told_faults(system)))
            found += is_broken_run(word, run)
        self.assertGreater(found, 10)

    def test_no_run_breaks_with_all_rules(self):
        for seed in range(60):
            system = some_system(seed, None, 150)[-1]
            self.assertIsNone(what_breaks((told_of(system.setup), system.events)))


def rows_near(rng, events):
    """Rows with an event left out, exchanged with its neighbour, or put in."""
    more = [("look", 0), ("look", 1), ("sync",), ("drop", 0), ("again", 0), ("hand", 0), ("rise", 0)]
    for at in range(len(events)):
        yield events[:at] + events[at + 1:]
        yield events[:at] + events[at + 1:at + 2] + events[at:at + 1] + events[at + 2:]
        yield events[:at] + (rng.choice(more),) + events[at:]


class RunTest(unittest.TestCase):
    def test_400_events_and_one_more(self):
        run = (TOLD, (("sync",),) * 400)
        self.assertEqual((is_run(run), len(system_of(run))), (True, 400))
        more = (TOLD, (("sync",),) * 401)
        self.assertIs(is_run(more), False)
        assert_raises(self, errors.InvalidOperation, None, system_of, more)
        assert_raises(self, errors.InvalidOperation, None, parting, more, "nothing")
        self.assertIs(is_broken_run("held", more), False)

    def test_the_parts_of_the_setup(self):
        for told in ((1, (0,), 1, 0, 1, (1,)), (6, (0, 1, 2, 3, 4, 5), 200, 200, 20, (6,) * 6)):
            self.assertIs(is_run((told, ())), True)
            self.assertEqual(system_of((told, ())), System(Setup(told[0], told[1], told[2], span=told[3], patience=told[4], readers=told[5])))
        for told in ((0, (0,), 1, 0, 1, (1,)), (7, (0,), 1, 0, 1, (1,)), (1, (), 1, 0, 1, (1,)), (1, (1,), 1, 0, 1, (1,)), (1, (0,), 0, 0, 1, (1,)),
                     (1, (0,), 201, 0, 1, (1,)), (1, (0,), 1, 201, 1, (1,)), (1, (0,), 1, 0, 0, (1,)), (1, (0,), 1, 0, 21, (1,)),
                     (1, (0,), 1, 0, 1, ()), (1, (0,), 1, 0, 1, (2,)), (True, (0,), 1, 0, 1, (1,)), (1, (0,), 1, 0, 1), (1, (0,), 1, 0, 1, (1,), 0)):
            self.assertIs(is_run((told, ())), False, told)

    def test_runs_whether_they_can_be_done_or_not(self):
        self.assertIs(is_run((TOLD, (("hand", 99),))), True)
        assert_raises(self, errors.Refused, ("reason", ("letter", 0)), system_of, (TOLD, (("hand", 99),)))
        for events in ((("hand", -1),), (("rise", 2),), (("read", 1, ASKED, 0),), [("sync",)], (("beat", (3, 1)),)):
            self.assertIs(is_run((TOLD, events)), False, events)

    def test_the_first_letter_that_is_not_there(self):
        run = (TOLD, (("read", 0, ASKED, 0), ("hand", 0), ("hand", 1), ("hand", 7)))
        for without in RULES[:-1] + (None,):
            assert_raises(self, errors.Refused, ("reason", ("letter", 2)), lambda value: system_of(run, without=value), without)
            assert_raises(self, errors.Refused, ("reason", ("letter", 2)), lambda value: what_breaks(run, without=value), without)
        assert_raises(self, errors.Refused, ("reason", ("letter", 3)), lambda value: system_of(run, without=value), "held")
        assert_raises(self, errors.UnknownName, ("wanted", "hold"), lambda value: system_of(run, without=value), "hold")

    def test_systems(self):
        for seed in range(20):
            system = some_system(seed, ("held", None)[seed % 2], 60)[-1]
            run = (told_of(system.setup), system.events)
            self.assertEqual(system_of(run, without=system.without), system)


class PartingTest(unittest.TestCase):
    def test_the_broken_runs_part(self):
        for word in RULES:
            run = broken_run(word)
            at = parting(run, word)
            self.assertEqual(told_parts(system_at(run, at - 1)), told_parts(system_at(run, at - 1, word)))
            self.assertNotEqual(told_parts(system_at(run, at)), told_parts(system_at(run, at, word)))

    def test_drawn_runs(self):
        found = none = 0
        for seed in range(110):
            word = RULES[seed % 11]
            system = some_system(seed, (None, word)[seed % 2], 60)[-1]
            run = (told_of(system.setup), system.events)
            at = parting(run, word)
            self.assertEqual(at, told_parting(run, word), (seed, word))
            found += at is not None
            none += at is None
        self.assertGreater(min(found, none), 20)

    def test_up_to_the_first_event_that_cannot_be_done(self):
        self.assertIsNone(parting((TOLD, (("hand", 0), ("read", 0, ASKED, 0), ("hand", 0))), "held"))
        self.assertEqual(parting((TOLD, (("read", 0, ASKED, 0), ("hand", 0), ("hand", 9))), "held"), 2)
        self.assertIsNone(parting((TOLD, ()), "held"))
        # A rise alone makes the origin unlike: it waits, or not.
        self.assertEqual(parting((TOLD, (("sync",), ("fall", 0, ()), ("rise", 0))), "ceiling"), 3)

    def test_wrong_arguments(self):
        for value in ODD:
            assert_raises(self, errors.InvalidOperation, None, parting, value, "nothing")
            assert_raises(self, errors.InvalidOperation, None, lambda run: system_of(run, without="nothing"), value)
            assert_raises(self, errors.InvalidOperation, None, lambda run: what_breaks(run, without="nothing"), value)


def told_parting(run, word):
    for count in range(1, len(run[1]) + 1):
        one, other = system_at(run, count), system_at(run, count, word)
        if one is None or other is None:
            return None
        if told_parts(one) != told_parts(other):
            return count
    return None


if __name__ == "__main__":
    unittest.main()
