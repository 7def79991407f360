"""Calms, stage 17."""

import random
import unittest

from drawn_runs import SHAPES, some_system
from helpers import ODD, assert_raises
from told_calm import is_open, some_quiet_row, told_calm, told_most_rounds, told_rounds, told_waits
from wholemoment import errors
from wholemoment.lend.cache import RULES
from wholemoment.lend.setups import Setup
from wholemoment.run.calm import calm, is_calm, is_quiet, most_rounds, quiet_rounds, what_waits
from wholemoment.run.sound import fault
from wholemoment.run.systems import System

ASKED, DEED = ("key", "a"), (("a", 5),)
S = System(Setup(1, (0,), 3, patience=1)).run((("write", 0, DEED), ("read", 0, ASKED, 0)))
CALLS = (calm, most_rounds, lambda value: is_quiet(value, None), lambda value: quiet_rounds(value, None),
         lambda value: is_calm(value, None), what_waits)


def drawn_systems(seeds=70, events=120):
    for seed in range(seeds):
        row = some_system(seed, None, events, SHAPES)
        yield row[events // 2]
        yield row[-1]


class ExampleTest(unittest.TestCase):
    def test_the_examples(self):
        self.assertEqual(calm(S), (("hand", 0), ("beat", (1, 1)), ("look", 0), ("look", 1), ("sync",), ("hand", 2), ("sync",),
                                   ("hand", 3), ("hand", 4)))
        self.assertEqual([most_rounds(S), is_calm(S, calm(S)), quiet_rounds(S, calm(S)), is_calm(S, calm(S)[1:]), is_quiet(S, calm(S)[:1]),
                          what_waits(S)], [5, True, 1, False, True, (("read", 0), ("write", 0))])
        self.assertEqual([S.run(calm(S)).answers[0][7:], what_waits(S.run(calm(S)[:4])), what_waits(S.run(calm(S)))],
                         [(5, (1, 4), (1, 4)), (("letters", 1), ("read", 0), ("write", 0)), ()])


class CalmTest(unittest.TestCase):
    def test_as_told_anew(self):
        for system in drawn_systems(30):
            self.assertEqual(calm(system), told_calm(system))

    def test_it_ends_within_the_rounds(self):
        waited = 0
        for system in drawn_systems():
            row = calm(system)
            rounds = quiet_rounds(system, row)
            after = system.run(row)
            self.assertLessEqual(rounds, most_rounds(system))
            self.assertFalse(is_open(after))
            self.assertTrue(is_calm(system, row) and is_quiet(system, row))
            self.assertIsNone(fault(after))
            self.assertEqual([told for told in what_waits(after) if told[0] in ("down", "early", "read", "write")], [])
            waited += rounds > 1
        self.assertGreater(waited, 40)

    def test_the_most_rounds_are_told_anew(self):
        for system in drawn_systems():
            self.assertEqual(most_rounds(system), told_most_rounds(system))

    def test_the_rounds_can_be_that_many(self):
        """If asks come ahead of the look that puts the deed, the last one is let go, and comes again when it is p units old."""
        for term, patience in ((1, 1), (1, 2), (5, 3), (7, 4), (8, 9)):
            system = System(Setup(1, (0,), term, patience=patience))
            system = system.run((("read", 0, ASKED, 0), ("hand", 0), ("sync",), ("fall", 0, ()), ("rise", 0), ("write", 0, DEED)))
            row, after, new = [("hand", 2)], system.done(("hand", 2)), 3
            while is_open(after):
                for event in (("beat", (1, 1)), ("look", 1)):
                    row.append(event)
                    after = after.done(event)
                while new < len(after.bag) or after.origin.held or row[-1] != ("look", 0):
                    event = ("hand", new) if new < len(after.bag) else ("sync",) if after.origin.held else ("look", 0)
                    new += event[0] == "hand"
                    row.append(event)
                    after = after.done(event)
            self.assertTrue(is_calm(system, tuple(row)))
            self.assertEqual(quiet_rounds(system, tuple(row)), most_rounds(system))

    def test_rises_come_first_and_hands_then(self):
        setup = Setup(2, (0, 1), 8, readers=(2, 1))
        system = System(setup).run((("write", 1, DEED), ("again", 1), ("write", 0, (("b", 1),)), ("fall", 2, ()), ("fall", 0, ())))
        row = calm(system)
        self.assertEqual(row[:5], (("rise", 0), ("rise", 2), ("hand", 2), ("hand", 0), ("beat", (1, 1, 1))))
        # Where nothing is open the machines rise, and no round follows.
        quiet = System(setup).run((("fall", 1, ()), ("fall", 0, ())))
        self.assertEqual((calm(quiet), calm(System(setup))), ((("rise", 0), ("rise", 1)), ()))

    def test_it_waits_until_the_origin_that_rose_is_free(self):
        system = System(Setup(1, (0,), 3, span=9)).run((("read", 0, ASKED, 0), ("hand", 0), ("sync",), ("fall", 0, ()), ("write", 0, DEED)))
        self.assertEqual((most_rounds(system), quiet_rounds(system, calm(system))), (12 + 2 + 2, 15))
        late = system.run((("rise", 0), ("beat", (1, 1)), ("hand", 2)))
        self.assertEqual((most_rounds(late), quiet_rounds(late, calm(late))), (11 + 2 + 2, 14))
        self.assertEqual(what_waits(late), (("early", 0), ("read", 0), ("write", 0)))

    def test_the_wait_is_told_by_the_clock_of_the_origin(self):
        for beats in range(5):
            system = System(Setup(3, (0,), 4, span=9)).run((("read", 0, ASKED, 0), ("hand", 0), ("sync",)) + (("beat", (1, 3)),) * beats)
            down = system.done(("fall", 0, ()))
            up = down.done(("rise", 0))
            self.assertEqual([most_rounds(told) for told in (system, down, up)], [4 + 2 + 2, 13 - beats + 2 + 2, 13 - beats + 2 + 2])
            late = up.run((("beat", (3, 1)),) * 3)
            self.assertEqual(most_rounds(late), max(4, 4 - beats) + 2 + 2)

    def test_no_letter_from_ahead_is_handed_but_the_deeds(self):
        """[17.7]"""
        for system in drawn_systems(20):
            hands = [event[1] for event in calm(system) if event[0] == "hand"]
            old = [number for number in hands if number < len(system.bag)]
            self.assertEqual(len(old), sum(reader.open_write is not None for reader in system.readers))
            self.assertEqual(len(hands), len(set(hands)))

    def test_a_read_can_wait_beyond_the_grants_of_its_keys(self):
        """[17.7]: a grant that is held for no unit is over when the other one comes."""
        setup = Setup(3, (0, 1), 2, readers=(2,), patience=1)
        system = System(setup).done(("read", 0, ("sum", ("a", "b")), 0))
        self.assertEqual(quiet_rounds(system, calm(system)), 1)

    def test_1500_events_and_one_more(self):
        row = calm(S)
        full = S.run((("sync",),) * (1500 - len(S) - len(row)))
        self.assertEqual((calm(full), is_calm(full, row)), (row, True))
        over = full.done(("sync",))
        assert_raises(self, errors.TooMany, ("limit", 1500), calm, over)
        self.assertEqual((is_quiet(over, row), is_calm(over, row)), (False, False))
        assert_raises(self, errors.InvalidOperation, None, quiet_rounds, over, row)
        self.assertEqual(most_rounds(over.run((("sync",),) * (1500 - len(over)))), 5)

    def test_wrong_systems(self):
        for call in CALLS:
            for value in ODD:
                assert_raises(self, errors.InvalidSystem, None, call, value)
            for word in RULES:
                assert_raises(self, errors.InvalidOperation, None, call, System(Setup(2, (0,), 9), without=word))


class QuietTest(unittest.TestCase):
    def test_rows_in_another_sequence(self):
        rng = random.Random(17)
        for seed in range(40):
            system = some_system(seed, None, 80, SHAPES[:6])[-1]
            rounds = rng.randrange(4)
            row, _ = some_quiet_row(rng, system, rounds)
            self.assertIs(is_quiet(system, row), True)
            self.assertEqual((quiet_rounds(system, row), told_rounds(system, row)), (rounds, rounds))

    def test_behind_the_most_rounds_nothing_is_open(self):
        rng = random.Random(18)
        for seed in range(40):
            system = some_system(seed, None, 80, SHAPES)[-1]
            row, after = some_quiet_row(rng, system, most_rounds(system))
            self.assertFalse(is_open(after), seed)
            self.assertIs(is_quiet(system, row), True)
            self.assertIs(is_calm(system, row), told_is_calm(system, row))
            self.assertIsNone(fault(after))

    def test_calms_in_another_sequence(self):
        rng, found = random.Random(19), 0
        for seed in range(40):
            system = some_system(seed, None, 80, SHAPES[:6])[-1]
            for rounds in range(4):
                row, _ = some_quiet_row(rng, system, rounds)
                self.assertIs(is_calm(system, row), told_is_calm(system, row), (seed, rounds))
                found += is_calm(system, row)
        self.assertGreater(found, 20)

    def test_rows_near_quiet_ones(self):
        rng, words = random.Random(20), {True: 0, False: 0}
        for seed in range(25):
            system = some_system(seed, None, 60, SHAPES[:5])[-1]
            row, _ = some_quiet_row(rng, system, rng.randrange(1, 3))
            for near in rows_near(rng, row):
                rounds = told_rounds(system, near)
                words[rounds is not None] += 1
                self.assertIs(is_quiet(system, near), rounds is not None, (seed, near))
                self.assertIs(is_calm(system, near), told_is_calm(system, near))
                if rounds is None:
                    assert_raises(self, errors.InvalidOperation, None, quiet_rounds, system, near)
                else:
                    self.assertEqual(quiet_rounds(system, near), rounds)
        self.assertGreater(min(words.values()), 100)

    def test_rows_that_are_not_quiet(self):
        row = calm(S)
        wrong = [list(row), row[1:], row[:2], row[:5], row[:-1], row + (("look", 1), ("hand", 4)), row + (("beat", (1, 1)),),
                 row[:1] + row[2:], row[:1] + row, row + (("read", 0, ASKED, 0),), row + (("again", 0),), (("look", 0),) + row,
                 row[:1] + (("beat", (True, 1)),) + row[2:], row[:1] + (("beat", [1, 1]),) + row[2:], row[:3] + row[4:], row + (None,),
                 row + (("fall", 1, ()), ("rise", 1)), row + (("hand", 0),), row + (("hand", 1),), row + (("hand", 99),), row + (("drop", 0),)]
        for value in wrong + ODD:
            self.assertIs(is_quiet(S, value), False, value)
            self.assertIs(is_calm(S, value), False, value)
            assert_raises(self, errors.InvalidOperation, None, quiet_rounds, S, value)
        for value in (row + (("look", 1),), row + (("sync",),), row[:2] + (("look", 0), ("sync",), ("look", 0)) + row[3:4] + row[5:6] + (("hand", 3), ("sync",), ("hand", 4)), row[:1]):
            self.assertIs(is_quiet(S, value), True, value)
        # With the spread 2 a beat can be another one, but not that of a round.
        other = System(Setup(2, (0,), 3, patience=1)).run(S.events)
        self.assertEqual((is_quiet(other, row), is_quiet(other, row[:1] + (("beat", (1, 2)),) + row[2:])), (True, False))

    def test_a_calm_has_no_round_more(self):
        row = calm(S)
        more = row + (("beat", (1, 1)), ("look", 0), ("look", 1))
        self.assertEqual((is_quiet(S, more), quiet_rounds(S, more), is_calm(S, more), is_calm(S, row[:1])), (True, 2, False, False))
        still = System(Setup(1, (0,), 3))
        self.assertEqual((is_calm(still, ()), is_calm(still, more[-3:]), is_quiet(still, more[-3:])), (True, False, True))
        self.assertEqual(is_calm(still.done(("fall", 1, ())), ()), False)


def told_is_calm(system, row):
    rounds = told_rounds(system, row)
    if rounds is None or is_open(system.run(row)):
        return False
    last = max([at for at, event in enumerate(row) if event[0] == "beat"], default=None)
    return last is None or is_open(system.run(row[:last]))


def rows_near(rng, row):
    """Rows with an event left out, doubled, exchanged with its neighbour, or put elsewhere, and beginnings."""
    for at in range(len(row)):
        yield row[:at]
        yield row[:at] + row[at + 1:]
        yield row[:at + 1] + row[at:]
        yield row[:at] + row[at + 1:at + 2] + row[at:at + 1] + row[at + 2:]
        other = rng.randrange(len(row))
        rest = row[:at] + row[at + 1:]
        yield rest[:other] + row[at:at + 1] + rest[other:]


class WaitsTest(unittest.TestCase):
    def test_at_each_step(self):
        words = {}
        for seed in range(60):
            row = some_system(seed, None, 100, SHAPES[:5])
            for system in row[::3]:
                found = what_waits(system)
                self.assertEqual(found, told_waits(system))
                self.assertEqual(found == (), self.is_at_rest(system), seed)
                for told in found:
                    words[told[0]] = words.get(told[0], 0) + 1
        self.assertEqual(sorted(words), ["down", "early", "held", "letters", "owed", "read", "write"])

    def is_at_rest(self, system):
        if system.origin is None or None in system.caches.values() or is_open(system):
            return False
        return not system.origin.held and not system.origin.queue and not any(cache.owed for cache in system.caches.values())

    def test_through_calms(self):
        for seed in range(20):
            system = some_system(seed, None, 60, SHAPES[:5])[-1]
            for event in calm(system):
                system = system.done(event)
                self.assertEqual(what_waits(system), told_waits(system))

    def test_words(self):
        setup = Setup(1, (0, 1), 9, readers=(2, 1))
        lent = System(setup).run((("read", 0, ASKED, 0), ("hand", 0), ("hand", 1), ("sync",), ("hand", 2), ("hand", 3)))
        self.assertEqual(what_waits(lent), ())
        wanted = lent.run((("write", 1, DEED), ("hand", 4)))
        self.assertEqual(what_waits(wanted), (("held", 1, "a"), ("letters", 1), ("write", 1)))
        owed = wanted.run((("sync",), ("hand", 5)))
        self.assertEqual(what_waits(owed), (("held", 1, "a"), ("owed", 1, "a"), ("write", 1)))
        self.assertEqual(what_waits(owed.run((("fall", 2, ()), ("fall", 0, ())))), (("down", 0), ("down", 2), ("owed", 1, "a"), ("write", 1)))


if __name__ == "__main__":
    unittest.main()
