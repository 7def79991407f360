"""The origin [12.1] to [12.7], and what it does without a rule [18.1]."""

import random
import unittest

from helpers import ODD, assert_raises
from told_machines import ToldOrigin, origin_parts
from wholemoment.disk.disk import Disk
from wholemoment.disk.log import block_of, read_log
from wholemoment.errors import InvalidDisk, InvalidLetter, InvalidNumber, InvalidOperation, InvalidSetup
from wholemoment.lend.books import Book
from wholemoment.lend.cache import RULES
from wholemoment.lend.origin import Origin
from wholemoment.lend.setups import Setup

S = Setup(2, (0, 0, 1), 4, readers=(1, 2, 3))
SPAN = Setup(2, (0, 0), 4, span=6, readers=(1, 2))


def deed(reader, number, *keys):
    return ("deed", reader, number, tuple((key, 10 * reader + number) for key in keys))


def ask(child, key, asked):
    return ("ask", child, 0, key, asked)


def run(origin, *events):
    """The origin behind events: (letter, reading), or a reading for a look."""
    for event in events:
        origin = origin.looked(event) if type(event) is int else origin.heard(*event)
    return origin


class OriginTest(unittest.TestCase):
    def test_examples(self):
        one = Origin(Setup(2, (0, 0), 4)).heard(("deed", 0, 1, (("a", 7),)), 3)
        two = one.synced()[0].heard(("ask", 1, 0, "a", 2), 3)
        three = two.heard(("deed", 0, 2, (("a", 8),)), 5)
        self.assertEqual([two.held, two.ceiling, three.closed], [(("grant", 0, 1, "a", 7, 2, 4),), 7, ("a",)])
        self.assertEqual([three.held[1:], three.looked(7).pairs, three.looked(8).pairs],
                         [(("recall", 0, 1, "a"),), {"a": 7}, {"a": 8}])

    def test_the_first_life(self):
        origin = Origin(S)
        self.assertEqual((origin.setup, origin.pairs, origin.queue, origin.numbers, origin.book), (S, {}, (), {}, Book()))
        self.assertEqual((origin.disk, origin.held, origin.ceiling, origin.free_from, origin.without, origin.closed),
                         (Disk(), (), -1, None, None, ()))
        self.assertEqual(str(origin), "origin with 0 keys, 0 waiting, 0 held")
        busy = run(origin, (ask(1, "a", 0), 0), (deed(0, 1, "b", "c"), 0), (deed(0, 2, "a"), 0))
        self.assertEqual(str(busy), "origin with 2 keys, 1 waiting, 3 held")

    def test_a_deed_is_put_at_once(self):
        origin = Origin(S).heard(deed(1, 3, "a", "b"), 0)
        self.assertEqual((origin.pairs, origin.numbers, origin.queue, origin.held), ({"a": 13, "b": 13}, {1: 3}, (), (("done", 1, 3),)))
        self.assertEqual(origin.disk, Disk((), (block_of(deed(1, 3, "a", "b")),)))
        gone = origin.heard(("deed", 0, 1, (("a", None), ("c", 1))), 0)
        self.assertEqual((gone.pairs, list(gone.numbers.items())), ({"b": 13, "c": 1}, [(0, 1), (1, 3)]))
        self.assertEqual(list(gone.pairs), ["b", "c"])

    def test_numbers_of_deeds(self):
        origin = run(Origin(S), (ask(1, "a", 0), 0), (deed(0, 2, "b"), 0), (deed(0, 4, "a"), 1))
        self.assertEqual((origin.numbers, origin.queue), ({0: 2}, ((0, 4, (("a", 4),)),)))
        # Numbers that were put are done again; those between, and those that wait, are let go.
        for number, told in ((1, ("done", 0, 1)), (2, ("done", 0, 2)), (3, None), (4, None)):
            again = origin.heard(deed(0, number, "c"), 2)
            self.assertEqual((again.queue, again.pairs), (origin.queue, origin.pairs))
            self.assertEqual(again.held[len(origin.held):], () if told is None else (told,))
        self.assertEqual(origin.heard(deed(0, 5, "c"), 2).queue, origin.queue + ((0, 5, (("c", 5),)),))
        self.assertEqual(origin.heard(deed(1, 1, "c"), 2).queue, origin.queue + ((1, 1, (("c", 11),)),))
        self.assertEqual(origin.heard(deed(1, 1, "c"), 2).heard(deed(0, 5, "c"), 2).heard(deed(1, 1, "c"), 2).queue[1:],
                         ((1, 1, (("c", 11),)), (0, 5, (("c", 5),))))

    def test_grants_and_ceilings(self):
        origin = run(Origin(SPAN), (ask(1, "a", 0), 3))
        self.assertEqual((origin.held, origin.ceiling), ((("grant", 0, 1, "a", None, 0, 4),), 13))
        self.assertEqual(origin.disk, Disk((), (block_of(("lend", 13)),)))
        self.assertEqual(origin.book, Book({(1, "a"): (0, 7)}))
        # The end 13 is not above the ceiling, 14 is: then the end and the span are the new one.
        same = origin.heard(ask(2, "a", 1), 9)
        self.assertEqual((same.ceiling, len(same.disk), same.book.lent[(2, "a")]), (13, 1, (1, 13)))
        higher = origin.heard(ask(2, "a", 1), 10)
        self.assertEqual((higher.ceiling, higher.disk.waiting[1:], higher.held[1:]),
                         (20, (block_of(("lend", 20)),), (("grant", 0, 2, "a", None, 1, 4),)))
        self.assertEqual(higher.heard(ask(2, "a", 0), 11).book.lent[(2, "a")], (1, 15))

    def test_closed_keys_are_not_lent(self):
        origin = run(Origin(S), (ask(1, "a", 0), 0), (deed(0, 1, "a", "b"), 1), (deed(0, 2, "c"), 1))
        self.assertEqual(origin.closed, ("a", "b"))
        for key in "ab":
            self.assertEqual(origin.heard(ask(2, key, 0), 2).held, origin.held)
            self.assertEqual(origin.heard(ask(2, key, 0), 2), origin)
        self.assertEqual(origin.heard(ask(2, "c", 0), 2).held[-1], ("grant", 0, 2, "c", None, 0, 4))
        # At an ask for a key that is closed the deed is put, if it can be, behind the letter.
        late = origin.heard(ask(2, "a", 0), 5)
        self.assertEqual((late.queue, late.closed, late.held[-2:]), ((), (), (("done", 0, 1), ("done", 0, 2))))
        self.assertEqual(late.book, origin.book)

    def test_recalls(self):
        origin = run(Origin(S), (ask(2, "a", 0), 0), (ask(1, "b", 0), 0), (ask(1, "a", 0), 1))
        front = origin.heard(deed(0, 1, "a", "b"), 2)
        recalls = (("recall", 0, 1, "a"), ("recall", 0, 2, "a"), ("recall", 0, 1, "b"))
        self.assertEqual(front.held, origin.held + recalls)
        # No recalls go for one that was at the front, but at a look; and none to those who hold nothing any more.
        self.assertEqual(front.heard(deed(1, 1, "c"), 3).held, front.held)
        self.assertEqual(front.heard(("back", 1, 0, "c", 9), 3).held, front.held)
        self.assertEqual(front.looked(4).held, front.held + recalls)
        self.assertEqual(front.looked(5).held, front.held + (("recall", 0, 1, "a"),))
        self.assertEqual(front.heard(("back", 1, 0, "a", 1), 3).looked(4).held, front.held + recalls[1:])
        self.assertEqual(Origin(S).looked(0).held, ())

    def test_the_next_one_comes_to_the_front(self):
        origin = run(Origin(S), (ask(1, "a", 0), 0), (ask(2, "b", 0), 3), (deed(0, 1, "a"), 3), (deed(1, 1, "b"), 3), (deed(2, 1, "c"), 3))
        self.assertEqual((origin.closed, origin.held[-1]), (("a",), ("recall", 0, 1, "a")))
        late = origin.heard(("back", 1, 0, "a", 0), 4)
        self.assertEqual((late.closed, late.held[-2:]), (("b",), (("done", 0, 1), ("recall", 0, 2, "b"))))
        self.assertEqual(late.looked(7).queue, late.queue)
        last = late.looked(8)
        self.assertEqual((last.queue, last.pairs, last.held[-2:]), ((), {"a": 1, "b": 11, "c": 21}, (("done", 1, 1), ("done", 2, 1))))
        self.assertEqual([record[1] for record in read_log(last.disk.blocks).records], [0, 1, 2])

    def test_deeds_that_wait_for_backs(self):
        origin = run(Origin(S), (ask(1, "a", 3), 3), (ask(2, "a", 4), 3), (deed(0, 1, "a"), 4))
        self.assertEqual(len(origin.heard(("back", 1, 0, "a", 2), 4).queue), 1)
        one = origin.heard(("back", 1, 0, "a", 3), 4)
        self.assertEqual((len(one.queue), one.book), (1, Book({(2, "a"): (4, 7)})))
        self.assertEqual(one.heard(("back", 2, 0, "a", 9), 4).queue, ())

    def test_synced_and_sent(self):
        origin = run(Origin(S), (ask(1, "a", 0), 0), (deed(0, 1, "b"), 0))
        synced, letters = origin.synced()
        self.assertEqual(letters, (("grant", 0, 1, "a", None, 0, 4), ("done", 0, 1)))
        self.assertEqual((synced.held, synced.disk, synced.pairs), ((), Disk(origin.disk.blocks), {"b": 1}))
        self.assertEqual(synced.synced(), (synced, ()))
        self.assertEqual(origin.sent(), (origin, ()))
        self.assertEqual(origin.held, letters)
        self.assertEqual(origin.fallen((1000,)), Disk(origin.disk.blocks[:1]))
        self.assertEqual(origin.fallen(()), Disk())
        assert_raises(self, InvalidOperation, None, origin.fallen, (1001,))

    def test_rising(self):
        origin = run(Origin(SPAN), (ask(1, "a", 0), 3), (deed(0, 1, "b"), 3), (ask(1, "b", 0), 20))
        for kept, ceiling, pairs in (((1000,) * 3, 30, {"b": 1}), ((1000, 1000), 13, {"b": 1}), ((1000, 5, 9), 13, {}),
                                     ((0, 1000, 3), -1, {"b": 1}), ((), -1, {})):
            risen = Origin.risen(SPAN, origin.fallen(kept), 9)
            self.assertEqual((risen.ceiling, risen.free_from, risen.pairs), (ceiling, ceiling, pairs))
            self.assertEqual((risen.queue, risen.book, risen.held, risen.disk), ((), Book(), (), origin.fallen(kept)))
            self.assertEqual(risen.numbers, {0: 1} if pairs else {})
        risen = Origin.risen(SPAN, origin.fallen((1000, 1000)), 9)
        self.assertEqual(risen.heard(deed(0, 1, "b"), 9).held, (("done", 0, 1),))
        # It lends again, but it puts no deed up to free from, also not of keys that nobody holds.
        waits = risen.heard(deed(0, 2, "c"), 9)
        self.assertEqual((len(waits.queue), len(waits.looked(13).queue), len(waits.looked(14).queue)), (1, 1, 0))
        lent = risen.heard(ask(2, "a", 5), 9)
        self.assertEqual((lent.ceiling, lent.held, lent.disk), (13, (("grant", 0, 2, "a", None, 5, 4),), risen.disk))
        higher = risen.heard(ask(2, "a", 5), 10)
        self.assertEqual((higher.ceiling, higher.free_from, higher.disk.waiting), (20, 13, (block_of(("lend", 20)),)))

    def test_without_the_ceiling(self):
        disk = Disk((block_of(("lend", 50)),))
        risen = Origin.risen(S, disk, 3, without="ceiling")
        self.assertEqual((risen.ceiling, risen.free_from, risen.without), (50, None, "ceiling"))
        self.assertEqual(risen.heard(deed(0, 1, "a"), 3).queue, ())
        self.assertEqual(len(Origin.risen(S, disk, 3, without="held").heard(deed(0, 1, "a"), 3).queue), 1)

    def test_without_held(self):
        origin = run(Origin(S, without="held"), (ask(1, "a", 0), 0), (deed(0, 1, "b"), 0))
        sent, letters = origin.sent()
        self.assertEqual(letters, (("grant", 0, 1, "a", None, 0, 4), ("done", 0, 1)))
        self.assertEqual((sent.held, sent.disk, sent.sent()), ((), origin.disk, (sent, ())))
        for word in RULES[:-1]:
            other = run(Origin(S, without=word), (ask(1, "a", 0), 0))
            self.assertEqual(other.sent(), (other, ()))

    def test_equality(self):
        origin = run(Origin(S), (ask(1, "a", 0), 0), (deed(0, 1, "a"), 0))
        self.assertEqual(origin, run(Origin(S), (ask(1, "a", 0), 0), (deed(0, 1, "a"), 0)))
        others = [Origin(S), Origin(S, without="late"), Origin(SPAN), origin.looked(0), origin.synced()[0], origin.looked(9),
                  run(Origin(S), (ask(1, "a", 1), 0), (deed(0, 1, "a"), 0)), run(Origin(S), (ask(1, "a", 0), 0)),
                  Origin.risen(S, Disk(), 0), Origin.risen(S, Disk((block_of(deed(0, 1, "a")),)), 0)]
        for index, other in enumerate(others):
            self.assertNotEqual(origin, other)
            for late in others[index + 1:]:
                self.assertNotEqual(other, late)
        for value in ODD:
            self.assertIs(origin == value, False)

    def test_one_part_alone_makes_unlike(self):
        lent = run(Origin(S), (ask(1, "a", 0), 0)).synced()[0]
        self.assertNotEqual(lent, lent.heard(deed(0, 1, "a"), 0).synced()[0])
        self.assertNotEqual(lent, run(Origin(S), (ask(1, "a", 1), 0)).synced()[0])
        held = run(Origin(S, without="held"), (ask(1, "a", 0), 0))
        self.assertNotEqual(held.sent()[0], held.synced()[0])
        self.assertNotEqual(held.sent()[0], held)


class ErrorTest(unittest.TestCase):
    def test_letters(self):
        letters = (ask(3, "a", 0), ("ask", 2, 1, "a", 0), ("back", 3, 0, "a", 0), ("back", 2, 1, "a", 0), ("grant", 0, 1, "a", 1, 0, 0),
                   ("recall", 0, 1, "a"), ("done", 0, 1), deed(3, 1, "a"), ("ask", 1, 0, "a", -1), None, "ask", ())
        for letter in letters + tuple(ODD):
            assert_raises(self, InvalidLetter, None, Origin(S).heard, letter, None)
        for letter in (ask(1, "a", 0), ask(2, "a", 0), ("back", 1, 0, "a", 0), deed(0, 1, "a"), deed(2, 1, "a")):
            for reading in (-1, True, None, 10 ** 60):
                assert_raises(self, InvalidNumber, ("given", reading), Origin(S).heard, letter, reading)
            Origin(S).heard(letter, 0)
        for reading in (-1, True, None, "0"):
            assert_raises(self, InvalidNumber, ("given", reading), Origin(S).looked, reading)

    def test_making_and_rising(self):
        for setup in (None, S.parents, 5):
            assert_raises(self, InvalidSetup, None, Origin, setup)
            assert_raises(self, InvalidSetup, None, Origin.risen, setup, None, None)
        assert_raises(self, InvalidDisk, None, Origin.risen, S, ("a",), None)
        assert_raises(self, InvalidNumber, ("given", None), Origin.risen, S, Disk((), ("a",)), None)
        assert_raises(self, InvalidOperation, None, Origin.risen, S, Disk((), ("a",)), 0)
        self.assertEqual(Origin.risen(S, Disk(("a",)), 0).pairs, {})
        for word in ("held ", "Held", "", True, 0, ("held",), RULES, [], {}, "none"):
            with self.assertRaises(InvalidOperation):
                Origin(S, without=word)
            with self.assertRaises(InvalidOperation):
                Origin.risen(S, Disk(), 0, without=word)
            with self.assertRaises(InvalidNumber):
                Origin.risen(S, Disk((), ("a",)), -1, without=word)
        for word in (None,) + RULES:
            self.assertEqual(Origin(S, without=word).without, word)
        with self.assertRaises(TypeError):
            Origin(S, "held")


class RowTest(unittest.TestCase):
    """Rows of events, beside an origin that is told anew."""

    def test_rows(self):
        rng = random.Random(1)
        for number in range(300):
            self.check_row(rng, rng.choice((None, None, None, "held", "ceiling", "late")))

    def check_row(self, rng, word):
        setup = Setup(rng.randrange(1, 4), rng.choice(((0,), (0, 0), (0, 1, 0))), rng.randrange(1, 9), span=rng.choice((0, 0, 3, 20)),
                      readers=(1,) * rng.randrange(1, 4))
        origin, told, reading, numbers = Origin(setup, without=word), ToldOrigin(setup, without=word), 0, [0] * 3
        for _ in range(40):
            reading += rng.choice((0, 0, 0, 1, 2))
            elder, before = origin, origin_parts(origin)
            act = rng.randrange(12)
            if act == 0:
                origin, letters = origin.synced()
                self.assertEqual(letters, told.sync())
            elif act == 1 and rng.random() < 0.3:
                disk = origin.fallen(tuple(rng.choice((0, 3, 1000)) for _ in range(rng.randrange(5))))
                origin, told = Origin.risen(setup, disk, reading, without=word), ToldOrigin(setup, disk.blocks, True, word)
            elif act == 2:
                origin, letters = origin.sent()
                self.assertEqual(letters, tuple(told.held) if word == "held" else ())
                told.held = [] if word == "held" else told.held
            elif act == 3:
                origin = origin.looked(reading)
                told.event(reading)
            else:
                letter = self.some_letter(rng, setup, numbers, reading)
                origin = origin.heard(letter, reading)
                told.event(reading, letter)
            self.assertEqual(origin_parts(origin), told.parts())
            self.assertEqual(origin_parts(elder), before)

    def some_letter(self, rng, setup, numbers, reading):
        child = rng.choice([index + 1 for index, parent in enumerate(setup.parents) if parent == 0])
        act = rng.randrange(3)
        if act == 0:
            return ask(child, rng.choice("abc"), rng.randrange(reading + 2))
        if act == 1:
            return ("back", child, 0, rng.choice("abc"), rng.randrange(reading + 2))
        reader = rng.randrange(len(setup.readers))
        numbers[reader] = max(1, numbers[reader] + rng.choice((1, 1, 1, 0, 0, -1, 2)))
        keys = sorted(rng.sample("abcd", rng.randrange(1, 3)))
        return ("deed", reader, numbers[reader], tuple((key, rng.choice((None, numbers[reader]))) for key in keys))

    def test_no_deed_touches_what_is_lent(self):
        """[12.6]: no deed is put on a key while a grant of it is not over and no back came for it."""
        rng = random.Random(2)
        for _ in range(150):
            setup = Setup(2, (0, 0), rng.randrange(1, 9))
            origin, reading, numbers, lent = Origin(setup), 0, [0] * 3, []
            for _ in range(40):
                reading += rng.choice((0, 0, 1, 2))
                letter = self.some_letter(rng, setup, numbers, reading)
                before = origin
                origin = origin.heard(letter, reading)
                for grant in origin.held[len(before.held):]:
                    if grant[0] == "grant":
                        lent.append((grant[2], grant[3], grant[5], reading + setup.term))
                if letter[0] == "back":
                    lent = [told for told in lent if told[:2] != (letter[1], letter[3]) or told[2] > letter[4]]
                for record in read_log(origin.disk.blocks).records[len(read_log(before.disk.blocks)):]:
                    held = [told for told in lent if told[1] in dict(record[3]) and told[3] >= reading]
                    self.assertEqual(held, [])

    def test_the_front_one_is_put_in_time(self):
        """[12.6]: at the first event above free from, and by more than the term above its coming to the front."""
        for term in (1, 4, 200):
            setup = Setup(1, (0,), term)
            origin = run(Origin(setup), (ask(1, "a", 0), 10), (deed(0, 1, "a"), 10))
            self.assertEqual((origin.looked(10 + term).pairs, origin.looked(11 + term).pairs), ({}, {"a": 1}))


class NotTrueTest(unittest.TestCase):
    """[12.7]: what is not true has an example."""

    def test_a_deed_that_is_put_can_be_lost(self):
        origin = run(Origin(S), (deed(0, 1, "a"), 0))
        self.assertEqual((origin.pairs, Origin.risen(S, origin.fallen(()), 1).pairs), ({"a": 1}, {}))

    def test_a_closed_key_is_held_by_somebody(self):
        origin = run(Origin(S), (ask(1, "a", 0), 0), (deed(0, 1, "a"), 0))
        self.assertEqual((origin.closed, origin.book.holders("a", 0)), (("a",), (1,)))


if __name__ == "__main__":
    unittest.main()
