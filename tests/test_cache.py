"""Caches [13.1] to [13.11], and what one does without a rule [18.1]."""

import random
import unittest

from helpers import ODD, assert_raises
from told_machines import ToldCache, cache_parts
from wholemoment.cache.copies import Copy, Shelf
from wholemoment.errors import (
    InvalidInstant, InvalidLetter, InvalidNumber, InvalidOperation, InvalidQuestion, InvalidSetup,
)
from wholemoment.lend.books import Book
from wholemoment.lend.cache import RULES, Cache
from wholemoment.lend.setups import Setup

S = Setup(2, (0, 1, 1), 12, readers=(1, 2, 1))
A, B = ("key", "a"), ("key", "b")
BOTH = ("plus", A, B)


def grant(key, value, asked, length):
    return ("grant", 0, 1, key, value, asked, length)


def ask(child, key, asked):
    return ("ask", child, 1, key, asked)


def recall(key):
    return ("recall", 0, 1, key)


def back(child, key, stamp):
    return ("back", child, 1, key, stamp)


def run(cache, *events):
    """The cache behind events: (letter, reading), a reading for a look, or what `read` takes."""
    for event in events:
        cache = act(cache, event)[0]
    return cache


def act(cache, event):
    if type(event) is int:
        return cache.looked(event)
    return cache.read(*event) if type(event[0]) is int else cache.heard(*event)


def cache_with(*keys, since=None, without=None, setup=S):
    """A cache that holds copies of keys with the value 7 from the reading 5 to 11, behind as many events."""
    return run(Cache(setup, 1, since=since, without=without), *[(grant(key, 7, 5, 12), 5) for key in keys])


class CacheTest(unittest.TestCase):
    def test_examples(self):
        setup = Setup(2, (0, 1), 12, readers=(1, 2))
        one, sent, told = Cache(setup, 1).read(0, 1, BOTH, 3, (0, 0), 5)
        self.assertEqual([sent, told, one.asked], [(("ask", 1, 0, "a", 5), ("ask", 1, 0, "b", 5)), (), {"a": 5, "b": 5}])
        two = one.heard(grant("a", 7, 5, 12), 6)[0].heard(grant("b", 2, 5, 4), 7)
        self.assertEqual([two[1], two[2], two[0].shelf.true_keys(8)], [(), ((0, 1, 9, (7, 3), (7, 3)),), ("a",)])
        three = two[0].heard(ask(2, "a", 4), 8)
        four = three[0].heard(recall("a"), 9)
        self.assertEqual([three[1], four[1], four[0].owed],
                         [(("grant", 1, 2, "a", 7, 4, 3),), (("recall", 1, 2, "a"),), ("a",)])
        self.assertEqual(four[0].heard(back(2, "a", 6), 9)[1], (("back", 1, 0, "a", 9),))

    def test_parts(self):
        self.assertEqual(RULES, ("spread", "stamp", "fence", "since", "wait", "below", "within", "common", "late", "ceiling", "held"))
        cache = Cache(S, 1)
        self.assertEqual((cache.setup, cache.number, cache.since, cache.without, cache.parent, cache.children),
                         (S, 1, None, None, 0, (2, 3)))
        self.assertEqual((cache.shelf, cache.book, cache.turns, cache.asked, cache.fence, cache.owed, cache.wants, cache.reads),
                         (Shelf(), Book(), 0, {}, {}, (), (), ()))
        other = Cache(S, 3, since=4, without="late")
        self.assertEqual((other.number, other.since, other.without, other.parent, other.children), (3, 4, "late", 1, ()))
        cache = cache_with("a", "b", "c").read(0, 1, ("key", "d"), 0, (0, 0), 6)[0]
        self.assertEqual(str(cache), "cache 1: 3 copies, 1 reads, 4 events")
        self.assertEqual(str(other), "cache 3: 0 copies, 0 reads, 0 events")

    def test_equality(self):
        cache = cache_with("a")
        self.assertEqual(cache, cache_with("a"))
        others = [Cache(S, 1), Cache(S, 2), Cache(S, 1, since=0), Cache(S, 1, without="fence"), cache_with("b"), cache.looked(5)[0],
                  cache_with("a", setup=Setup(2, (0, 1, 1), 13)), cache.heard(ask(2, "a", 1), 5)[0], cache.heard(ask(2, "b", 1), 5)[0],
                  cache.heard(ask(2, "b", 2), 5)[0], cache.read(0, 1, B, 0, (0, 0), 5)[0], cache.heard(recall("a"), 5)[0],
                  cache.heard(ask(2, "a", 1), 5)[0].heard(recall("a"), 5)[0], cache.heard(recall("b"), 5)[0],
                  cache.read(0, 1, B, 0, (0, 0), 5)[0].forgotten(0)]
        for index, other in enumerate(others):
            self.assertNotEqual(cache, other)
            for late in others[index + 1:]:
                self.assertNotEqual(other, late)
        for value in ODD:
            self.assertIs(cache == value, False)

    def test_one_part_alone_makes_unlike(self):
        for since in (None, 5):
            one, other = [run(Cache(S, 1, since=since), (recall(key), 6)) for key in "ab"]
            self.assertEqual(cache_parts(one)[:4], cache_parts(other)[:4])
            self.assertNotEqual(one, other)


class LetterTest(unittest.TestCase):
    """[13.3] to [13.5]."""

    def test_asks_of_children(self):
        cache = cache_with("a", "b")
        # The lesser one of the term 12 and of the last 11 less the reading.
        after, sent, told = cache.heard(ask(3, "a", 4), 8)
        self.assertEqual((sent, told, after.book), ((("grant", 1, 3, "a", 7, 4, 3),), (), Book({(3, "a"): (4, 11)})))
        self.assertEqual((after.turns, after.wants), (3, ()))
        self.assertEqual(cache.heard(ask(3, "a", 4), 11)[1], (("grant", 1, 3, "a", 7, 4, 0),))
        long = run(Cache(S, 1), (grant("a", 7, 5, 200), 5))
        for reading, length in ((5, 12), (93, 12), (94, 11), (105, 0)):
            after, sent, _ = long.heard(ask(3, "a", 4), reading)
            self.assertEqual((sent[0][6], after.book.lent[(3, "a")]), (length, (4, reading + length)))
        # What is not true any more, or owed, waits, and is asked for.
        after, sent, _ = cache.heard(ask(3, "a", 4), 12)
        self.assertEqual((sent, after.wants, after.asked), ((("ask", 1, 0, "a", 12),), ((3, "a", 4),), {"a": 12}))
        owed = run(cache, (ask(2, "a", 1), 6), (recall("a"), 6))
        after, sent, _ = owed.heard(ask(3, "a", 4), 7)
        self.assertEqual((sent, after.wants, after.asked), ((), ((3, "a", 4),), {}))

    def test_wants_take_the_place_of_elder_ones(self):
        cache = run(Cache(S, 1), (ask(2, "a", 1), 5), (ask(3, "a", 2), 5), (ask(2, "b", 3), 5), (ask(2, "a", 4), 5))
        self.assertEqual(cache.wants, ((2, "a", 4), (3, "a", 2), (2, "b", 3)))
        self.assertEqual(run(cache, (ask(2, "b", 0), 5)).wants, ((2, "a", 4), (3, "a", 2), (2, "b", 0)))
        after, sent, _ = cache.heard(grant("a", None, 5, 12), 6)
        self.assertEqual((sent, after.wants), ((("grant", 1, 2, "a", None, 4, 5), ("grant", 1, 3, "a", None, 2, 5)), ((2, "b", 3),)))
        self.assertEqual(after.book, Book({(2, "a"): (4, 11), (3, "a"): (2, 11)}))
        self.assertEqual(after.asked, {"b": 5})

    def test_grants(self):
        cache = run(Cache(S, 1), (0, 1, BOTH, 0, (0, 0), 5))
        self.assertEqual(cache.asked, {"a": 5, "b": 5})
        after = run(cache, (grant("a", 3, 5, 12), 7))
        self.assertEqual((after.shelf, after.asked), (Shelf((Copy("a", 3, (7, 2), 11),)), {"b": 5}))
        # One that comes above its last, or tells an ask to come, is let go; no ask is open any more.
        for told, reading in ((grant("a", 3, 5, 2), 7), (grant("a", 3, 8, 12), 7)):
            late = run(cache, (told, reading))
            self.assertEqual((late.shelf, "a" in late.asked, late.turns), (Shelf(), True, 2))
            self.assertEqual(late.asked["a"], 7)
        self.assertEqual(run(cache, (grant("a", 3, 5, 4), 7)).shelf.kept("a"), Copy("a", 3, (7, 2), 7))
        self.assertEqual(run(cache, (grant("a", 3, 7, 4), 7)).shelf.kept("a"), Copy("a", 3, (7, 2), 9))
        twice = run(after, (grant("a", 3, 6, 14), 8), (grant("a", 3, 5, 12), 8))
        self.assertEqual(twice.shelf.kept("a"), Copy("a", 3, (7, 2), 13))

    def test_stamps_that_were_asked_up_to_since(self):
        for asked, taken in ((4, False), (5, False), (6, True)):
            cache = run(Cache(S, 1, since=5), (grant("a", 7, asked, 12), 6))
            self.assertIs("a" in cache.shelf, taken)
            other = run(Cache(S, 1, since=5, without="since"), (grant("a", 7, asked, 12), 6))
            self.assertIs("a" in other.shelf, True)

    def test_stamps_that_were_asked_up_to_the_fence(self):
        for asked, taken in ((5, False), (6, False), (7, True)):
            for word in (None, "fence"):
                cache = run(cache_with("a", without=word), (recall("a"), 6), (grant("a", 9, asked, 12), 8))
                self.assertEqual(cache.fence, {"a": 6})
                self.assertEqual(cache.shelf.kept("a").value, 9 if taken or word else 7)
                self.assertEqual(run(cache, (grant("b", 9, asked, 12), 8)).shelf.kept("b").value, 9)

    def test_recalls(self):
        cache = run(cache_with("a", "b"), (ask(3, "b", 1), 6), (ask(2, "b", 1), 6), (ask(2, "a", 1), 6))
        after, sent, told = cache.heard(recall("b"), 7)
        self.assertEqual((sent, told, after.owed), ((("recall", 1, 2, "b"), ("recall", 1, 3, "b")), (), ("b",)))
        self.assertEqual(after.heard(recall("b"), 7)[1], sent)
        self.assertEqual(run(after, (recall("a"), 7), (recall("b"), 7)).owed, ("a", "b"))
        # Up to its end an entry has a holder: only above it the key is given back.
        self.assertEqual(after.looked(11)[1], ())
        self.assertEqual(after.looked(12)[1], (("back", 1, 0, "b", 12),))
        self.assertEqual(run(after, (back(3, "b", 1), 8)).owed, ("b",))
        self.assertEqual(run(after, (back(3, "b", 1), 8), (back(2, "b", 0), 8)).owed, ("b",))
        last, sent, _ = run(after, (back(3, "b", 1), 8)).heard(back(2, "b", 1), 9)
        self.assertEqual((sent, last.owed, last.fence, last.turns), ((("back", 1, 0, "b", 9),), (), {"b": 9}, 9))
        self.assertEqual(last.shelf.kept("b"), Copy("b", 7, (5, 2), 11, (9, 9)))

    def test_what_is_owed_answers_but_is_not_lent(self):
        cache = run(cache_with("a"), (ask(2, "a", 1), 6), (recall("a"), 7))
        after, sent, told = cache.read(0, 1, A, 0, (0, 0), 8)
        self.assertEqual((sent, told, after.reads), ((), ((0, 1, 7, (8, 1), (8, 4)),), ()))
        self.assertEqual(run(cache, (ask(3, "a", 1), 8)).wants, ((3, "a", 1),))

    def test_letters_that_do_nothing(self):
        cache = run(cache_with("a"), (ask(2, "b", 1), 6))
        for letter in (("done", 0, 1), ("done", 2, 9), ("ask", 4, 1, "a", 0), ("ask", 6, 1, "b", 9), ("back", 5, 1, "a", 0)):
            after, sent, told = cache.heard(letter, 6)
            self.assertEqual((sent, told, cache_parts(after)[0:2], after.turns), ((), (), cache_parts(cache)[0:2], 3))
            self.assertEqual(cache_parts(after)[3:], cache_parts(cache)[3:])
        leaf = Cache(Setup(2, (0, 0, 2), 9), 3)
        for letter in (("grant", 0, 3, "a", 1, 5, 9), ("grant", 1, 3, "a", 1, 5, 9), ("recall", 0, 3, "a"), ("recall", 1, 3, "a")):
            after, sent, told = leaf.heard(letter, 5)
            self.assertEqual((sent, told, after), ((), (), leaf.looked(5)[0]))


class ReadTest(unittest.TestCase):
    """[13.6], [13.7]."""

    def test_answers(self):
        cache = cache_with("a", "b")
        self.assertEqual(cache.read(2, 5, BOTH, 0, (0, 0), 6)[2], ((2, 5, 14, (6, 2), (6, 3)),))
        self.assertEqual(cache.read(0, 1, BOTH, 1, (0, 0), 6)[2], ((0, 1, 14, (5, 2), (6, 3)),))
        self.assertEqual(cache.read(0, 1, BOTH, 9, (6, 3), 8)[2], ((0, 1, 14, (6, 3), (8, 3)),))
        # Copies that are over still answer what may be old enough; what is waited for is asked for.
        self.assertEqual(cache.read(0, 1, BOTH, 9, (0, 0), 20)[2], ((0, 1, 14, (11, 2), (11, 3)),))
        after, sent, told = cache.read(0, 1, BOTH, 8, (0, 0), 20)
        self.assertEqual((sent, told, after.reads), ((("ask", 1, 0, "a", 20), ("ask", 1, 0, "b", 20)), (), ((0, 1, BOTH, 8, (0, 0)),)))
        self.assertEqual(cache.read(0, 1, ("key", "c"), 99, (0, 0), 6)[1:], ((("ask", 1, 0, "c", 6),), ()))
        self.assertEqual(cache.read(0, 1, ("number", 4), 0, (0, 0), 6)[2], ((0, 1, 4, (6, 0), (6, 3)),))
        gone = run(cache, (recall("a"), 7))
        self.assertEqual(gone.read(0, 1, BOTH, 1, (0, 0), 8)[2], ((0, 1, 14, (7, 2), (7, 3)),))
        self.assertEqual(gone.read(0, 1, BOTH, 0, (0, 0), 8)[2], ())

    def test_reads_that_wait(self):
        cache = run(Cache(S, 1), (0, 1, A, 0, (0, 0), 5), (2, 4, B, 1, (0, 0), 5))
        self.assertEqual(cache.reads, ((0, 1, A, 0, (0, 0)), (2, 4, B, 1, (0, 0))))
        other = run(cache, (0, 2, BOTH, 3, (1, 1), 5))
        self.assertEqual(other.reads, ((0, 2, BOTH, 3, (1, 1)), (2, 4, B, 1, (0, 0))))
        after, sent, told = run(other, (grant("a", 1, 5, 12), 6)).heard(grant("b", 2, 5, 12), 6)
        self.assertEqual((sent, told, after.reads), ((), ((0, 2, 3, (6, 5), (6, 5)), (2, 4, 2, (6, 5), (6, 5))), ()))
        self.assertEqual(cache.forgotten(0).reads, cache.reads[1:])
        self.assertEqual((cache.forgotten(0).turns, cache.forgotten(0).asked), (2, {"a": 5, "b": 5}))
        self.assertEqual(cache.forgotten(0).forgotten(0).forgotten(2).reads, ())

    def test_asks_and_patience(self):
        setup = Setup(2, (0, 1), 12, patience=4)
        cache = run(Cache(setup, 1), (0, 1, A, 0, (0, 0), 5))
        for reading, count in ((5, 0), (8, 0), (9, 1), (30, 1)):
            after, sent, _ = cache.looked(reading)
            self.assertEqual((sent, after.asked), ((("ask", 1, 0, "a", reading),) * count, {"a": reading if count else 5}))
        once = cache.looked(9)[0]
        self.assertEqual([len(once.looked(reading)[1]) for reading in (12, 13)], [0, 1])
        self.assertEqual(cache.forgotten(0).looked(30)[1], ())
        wants = run(Cache(setup, 1), (ask(2, "b", 1), 5), (0, 1, A, 0, (0, 0), 5))
        self.assertEqual(wants.looked(9)[1], (("ask", 1, 0, "a", 9), ("ask", 1, 0, "b", 9)))

    def test_asks_at_since_and_at_the_fence(self):
        for reading, sent in ((5, ()), (6, (("ask", 1, 0, "a", 6),))):
            self.assertEqual(Cache(S, 1, since=5).read(0, 1, A, 0, (0, 0), reading)[1], sent)
            cache = run(Cache(S, 1), (recall("a"), 5))
            self.assertEqual(cache.read(0, 1, A, 0, (0, 0), reading)[1], sent)
            self.assertEqual(cache.read(0, 1, B, 0, (0, 0), 5)[1], (("ask", 1, 0, "b", 5),))
        # What is true is not asked for, though its read waits for something else.
        cache = cache_with("a")
        self.assertEqual(cache.read(0, 1, BOTH, 0, (0, 0), 6)[1], (("ask", 1, 0, "b", 6),))
        self.assertEqual(cache.read(0, 1, BOTH, 0, (0, 0), 12)[1], (("ask", 1, 0, "a", 12), ("ask", 1, 0, "b", 12)))

    def test_each_key_is_asked_for_once(self):
        cache = run(Cache(S, 1), (ask(2, "b", 1), 5))
        after, sent, _ = cache.read(0, 1, ("sum", ("a", "b", "c")), 0, (0, 0), 5)
        self.assertEqual((sent, after.asked), ((("ask", 1, 0, "a", 5), ("ask", 1, 0, "c", 5)), {"a": 5, "b": 5, "c": 5}))
        self.assertEqual(list(after.asked), ["a", "b", "c"])


class BackTest(unittest.TestCase):
    """[13.2], [13.8], [13.9]."""

    def test_each_back_is_an_event(self):
        cache = run(cache_with("a", "b"), (ask(2, "a", 1), 6), (ask(2, "b", 1), 6), (recall("b"), 6), (recall("a"), 6))
        after, sent, told = cache.read(0, 1, BOTH, 0, (0, 0), 12)
        self.assertEqual(sent, (("back", 1, 0, "a", 12), ("back", 1, 0, "b", 12)))
        self.assertEqual((told, after.turns, after.fence, after.owed), ((), 9, {"a": 12, "b": 12}, ()))
        self.assertEqual(after.shelf, Shelf((Copy("a", 7, (5, 1), 11, (12, 8)), Copy("b", 7, (5, 2), 11, (12, 9)))))
        self.assertEqual(list(after.fence), ["a", "b"])
        # The keys were owed at the asks of this event: they are asked for at a later reading.
        self.assertEqual(after.looked(12)[1], ())
        self.assertEqual(after.looked(13)[1], (("ask", 1, 0, "a", 13), ("ask", 1, 0, "b", 13)))

    def test_keys_without_a_copy(self):
        after, sent, _ = Cache(S, 1).heard(recall("a"), 3)
        self.assertEqual((sent, after.turns, after.shelf, after.fence), ((("back", 1, 0, "a", 3),), 2, Shelf(), {"a": 3}))
        again, sent, _ = run(cache_with("a"), (recall("a"), 6)).heard(recall("a"), 7)
        self.assertEqual((sent, again.turns, again.fence), ((("back", 1, 0, "a", 7),), 5, {"a": 7}))
        self.assertEqual(again.shelf.kept("a"), Copy("a", 7, (5, 1), 11, (6, 3)))

    def test_later_lives(self):
        cache = run(Cache(S, 1, since=5), (recall("a"), 6))
        self.assertEqual((cache.owed, cache.turns), (("a",), 1))
        self.assertEqual(cache.looked(17)[1], ())
        self.assertEqual(cache.looked(18)[1], (("back", 1, 0, "a", 18),))
        self.assertEqual(run(Cache(S, 1, since=5, without="wait"), (recall("a"), 6)).fence, {"a": 6})
        # One without children can have lent nothing.
        leaf = Cache(S, 2, since=5).heard(("recall", 1, 2, "a"), 5)
        self.assertEqual(leaf[1], (("back", 2, 1, "a", 5),))

    def test_the_sequence_of_the_letters(self):
        cache = run(cache_with("b", setup=Setup(2, (0, 1, 1), 12, readers=(1, 1))), (ask(2, "a", 1), 5), (ask(3, "a", 2), 5),
                    (ask(2, "b", 4), 5), (recall("b"), 5), (0, 1, ("plus", A, ("key", "c")), 0, (0, 0), 5), (1, 1, A, 0, (0, 0), 5))
        after, sent, told = cache.heard(grant("a", 3, 5, 40), 12)
        self.assertEqual(sent, (("grant", 1, 2, "a", 3, 1, 12), ("grant", 1, 3, "a", 3, 2, 12), ("ask", 1, 0, "c", 12),
                                ("back", 1, 0, "b", 12)))
        self.assertEqual((told, after.turns), (((1, 1, 3, (12, 8), (12, 8)),), 9))
        recalled = run(after, (ask(3, "c", 1), 13)).heard(recall("a"), 15)
        self.assertEqual(recalled[1], (("recall", 1, 2, "a"), ("recall", 1, 3, "a"), ("ask", 1, 0, "c", 15)))


class RuleTest(unittest.TestCase):
    """[18.1]: what is otherwise without each rule of a cache; the origin's two stand with the origin."""

    def other(self, word, *events):
        """The outcome of the last event with all rules, and without one."""
        for without in (None,) + RULES:
            self.check_as_told(without, events)
        found = [act(run(Cache(S, 1, without=without), *events[:-1]), events[-1]) for without in (None, word)]
        self.assertNotEqual(cache_parts(found[0][0]) + found[0][1:], cache_parts(found[1][0]) + found[1][1:])
        return found

    def check_as_told(self, without, events):
        cache, told = Cache(S, 1, without=without), ToldCache(S, 1, without=without)
        for event in events:
            found = act(cache, event)
            reading = event if type(event) is int else event[-1]
            letter = event[0] if type(event) is tuple and type(event[0]) is tuple else None
            read = event[:-1] if type(event) is tuple and letter is None else None
            self.assertEqual(found[1:], told.event(reading, letter, read))
            self.assertEqual(cache_parts(found[0]), told.parts())
            cache = found[0]

    def test_spread(self):
        right, other = self.other("spread", (grant("a", 7, 5, 12), 6))
        self.assertEqual((right[0].shelf.kept("a").last, other[0].shelf.kept("a").last), (11, 17))
        self.other("spread", (grant("a", 7, 5, 12), 17))

    def test_stamp(self):
        right, other = self.other("stamp", (grant("a", 7, 5, 12), 8))
        self.assertEqual((right[0].shelf.kept("a").last, other[0].shelf.kept("a").last), (11, 14))
        _, other = self.other("stamp", (grant("a", 7, 5, 12), 30))
        self.assertEqual(other[0].shelf.kept("a"), Copy("a", 7, (30, 1), 36))
        self.assertEqual(run(Cache(S, 1, without="stamp"), (grant("a", 7, 9, 12), 8)).shelf, Shelf())

    def test_fence_and_since(self):
        _, other = self.other("fence", (recall("a"), 6), (grant("a", 7, 6, 12), 7))
        self.assertEqual(other[0].shelf.kept("a"), Copy("a", 7, (7, 3), 12))
        for word in (None,) + RULES:
            cache = run(Cache(S, 1, since=5, without=word), (grant("a", 7, 5, 12), 6))
            self.assertIs("a" in cache.shelf, word == "since")

    def test_wait(self):
        for word in (None,) + RULES:
            cache, sent, _ = Cache(S, 1, since=5, without=word).heard(recall("a"), 6)
            self.assertEqual((sent, cache.owed), (((("back", 1, 0, "a", 6),), ()) if word == "wait" else ((), ("a",))))

    def test_below(self):
        right, other = self.other("below", (grant("a", 7, 5, 12), 6), (ask(2, "a", 1), 6), (recall("a"), 7))
        self.assertEqual(right[1], (("recall", 1, 2, "a"),))
        self.assertEqual(other[1], (("recall", 1, 2, "a"), ("back", 1, 0, "a", 7)))

    def test_within(self):
        right, other = self.other("within", (grant("a", 7, 5, 12), 6), (ask(2, "a", 1), 9))
        self.assertEqual((right[1], other[1]), ((("grant", 1, 2, "a", 7, 1, 2),), (("grant", 1, 2, "a", 7, 1, 12),)))
        self.assertEqual(other[0].book.lent, {(2, "a"): (1, 21)})

    def test_common(self):
        right, other = self.other("common", (grant("a", 7, 5, 6), 5), (grant("b", 8, 9, 12), 9), (0, 3, BOTH, 4, (0, 0), 10))
        self.assertEqual((right[2], other[2]), ((), ((0, 3, 15, (10, 3), (10, 3)),)))
        # Each copy alone has an answer's stretch with this age, one of them has none with a lesser one.
        cache = run(Cache(S, 1, without="common"), (grant("a", 7, 5, 6), 5), (grant("b", 8, 9, 12), 9))
        self.assertEqual([len(cache.read(0, 3, BOTH, age, (0, 0), 10)[2]) for age in (1, 2)], [0, 1])
        self.assertEqual(cache.read(0, 3, B, 4, (0, 0), 10)[2], ((0, 3, 8, (10, 3), (10, 3)),))

    def test_late(self):
        right, other = self.other("late", (grant("a", 7, 5, 12), 12))
        self.assertEqual((len(right[0].shelf), other[0].shelf.kept("a")), (0, Copy("a", 7, (12, 1), 12)))
        self.assertEqual(run(Cache(S, 1, without="late"), (grant("a", 7, 5, 12), 11)).shelf.kept("a"), Copy("a", 7, (11, 1), 11))
        longer = run(Cache(S, 1, without="late"), (grant("a", 7, 9, 40), 11), (grant("a", 7, 5, 12), 12), (grant("a", 6, 5, 12), 13))
        self.assertEqual(longer.shelf.kept("a"), Copy("a", 6, (13, 3), 13))


class ErrorTest(unittest.TestCase):
    def test_making(self):
        for setup in (None, S.parents):
            assert_raises(self, InvalidSetup, None, Cache, setup, None)
        for number in (0, 4, True, None, "1"):
            assert_raises(self, InvalidNumber, ("given", number), Cache, S, number)
        for since in (-1, True, "0", (), 10 ** 60):
            with self.assertRaises(InvalidNumber) as caught:
                Cache(S, 1, since=since, without="nothing")
            self.assertEqual(caught.exception.given, since)
        for word in ("nothing", True, 0, (), RULES, ["late"], {}, ""):
            with self.assertRaises(InvalidOperation):
                Cache(S, 1, since=0, without=word)
        with self.assertRaises(TypeError):
            Cache(S, 1, 0)

    def test_hearing_and_looking(self):
        cache = Cache(S, 1, since=5)
        for letter in ODD + [("grant", 0, 1, "a", 1, 5)]:
            assert_raises(self, InvalidLetter, None, cache.heard, letter, None)
        for reading in (-1, True, None, 10 ** 60):
            assert_raises(self, InvalidNumber, ("given", reading), cache.heard, ("done", 1, 1), reading)
            assert_raises(self, InvalidNumber, ("given", reading), cache.looked, reading)
        for letter in (("grant", 0, 2, "a", 1, 5, 9), ("ask", 2, 0, "a", 1), ("deed", 0, 1, (("a", 1),)), ("done", 1, 1), ("done", 3, 1),
                       ("back", 1, 0, "a", 3)):
            assert_raises(self, InvalidOperation, None, cache.heard, letter, 9)
        for reading, error in ((0, InvalidOperation), (4, InvalidOperation)):
            assert_raises(self, error, None, cache.heard, recall("a"), reading)
            assert_raises(self, error, None, cache.looked, reading)
            assert_raises(self, error, None, cache.read, 0, 1, A, 0, (0, 0), reading)
        for event in ((recall("a"), 5), 5, (0, 1, A, 0, (0, 0), 5)):
            self.assertEqual(act(cache, event)[0].turns, 1)

    def test_reading(self):
        cache = Cache(S, 1, since=5)
        for reader in (1, 3, -1, True, None, "0"):
            assert_raises(self, InvalidNumber, ("given", reader), cache.read, reader, 0, None, -1, None, -1)
            assert_raises(self, InvalidNumber, ("given", reader), cache.forgotten, reader)
        for number in (0, -1, True, None):
            assert_raises(self, InvalidNumber, ("given", number), cache.read, 0, number, None, -1, None, -1)
        assert_raises(self, InvalidQuestion, None, cache.read, 2, 1, ("key", "A"), -1, None, -1)
        for age in (-1, 10 ** 6 + 1, True, None):
            assert_raises(self, InvalidNumber, ("given", age), cache.read, 0, 1, A, age, None, -1)
        assert_raises(self, InvalidInstant, None, cache.read, 0, 1, A, 10 ** 6, (0, True), -1)
        for reading in (-1, True, None):
            assert_raises(self, InvalidNumber, ("given", reading), cache.read, 0, 1, A, 0, (0, 0), reading)


class RowTest(unittest.TestCase):
    """Rows of events, in which letters come late, twice and in another sequence, beside a cache that is told anew."""

    def test_rows(self):
        rng = random.Random(1)
        for number in range(400):
            self.check_row(rng, rng.choice((None, None, None, None) + RULES))

    def check_row(self, rng, word):
        parents = rng.choice(((0,), (0, 1), (0, 1, 1), (0, 0, 2, 2)))
        number = rng.randrange(1, len(parents) + 1)
        setup = Setup(rng.randrange(1, 4), parents, rng.choice((1, 5, 12, 30)), patience=rng.randrange(1, 6),
                      readers=(number,) * 3 + (1,))
        since = rng.choice((None, 0, 3))
        cache, told = Cache(setup, number, since=since, without=word), ToldCache(setup, number, since, word)
        reading, letters = since or 0, []
        for _ in range(40):
            reading += rng.choice((0, 0, 0, 1, 1, 2, 4))
            elder, before = cache, cache_parts(cache)
            if rng.random() < 0.05:
                reader = rng.randrange(3)
                cache = cache.forgotten(reader)
                told.reads = [read for read in told.reads if read[0] != reader]
            else:
                cache = self.check_event(rng, cache, told, reading, letters)
            self.assertEqual(cache_parts(cache), told.parts())
            self.assertEqual(cache_parts(elder), before)

    def check_event(self, rng, cache, told, reading, letters):
        kind = rng.randrange(8)
        if kind == 0:
            found, expected = cache.looked(reading), told.event(reading)
        elif kind == 1:
            read = (rng.randrange(3), rng.randrange(1, 9), rng.choice((A, B, BOTH, ("many", ("a", "b", "c")), ("number", 3))),
                    rng.choice((0, 1, 4, 10)), (rng.randrange(reading + 1), rng.randrange(cache.turns + 1)))
            found, expected = cache.read(*read, reading), told.event(reading, read=read)
        else:
            # Elder letters come again, as they were sent.
            if not letters or rng.random() < 0.7:
                letters.append(self.some_letter(rng, cache, reading))
            letter = rng.choice(letters[-6:])
            found, expected = cache.heard(letter, reading), told.event(reading, letter)
        self.assertEqual(found[1:], expected)
        return found[0]

    def some_letter(self, rng, cache, reading):
        key = rng.choice("abc")
        asked = max(0, reading - rng.randrange(-1, 6))
        words = ["grant", "grant", "recall", "done"] + ["ask", "back"] * (1 if cache.children else 0)
        word = rng.choice(words)
        if word == "grant":
            return ("grant", cache.parent, cache.number, key, rng.choice((None, 1, 1, 2)), asked, rng.choice((0, 3, 9, 40)))
        if word == "recall":
            return ("recall", cache.parent, cache.number, key)
        if word == "done":
            return ("done", 0, rng.randrange(1, 4))
        return (word, rng.choice(cache.children), cache.number, key, asked)


class NotTrueTest(unittest.TestCase):
    """[13.11]: what is not true has an example."""

    def test_who_gives_a_key_back_need_not_hold_it(self):
        self.assertEqual(Cache(S, 1).heard(recall("a"), 3)[1], (("back", 1, 0, "a", 3),))

    def test_a_cache_that_rose_answers_at_once(self):
        cache = run(Cache(S, 1, since=5), (0, 1, A, 0, (0, 0), 6))
        self.assertEqual(cache.heard(grant("a", 7, 6, 12), 6)[2], ((0, 1, 7, (6, 2), (6, 2)),))

    def test_an_ask_that_was_granted_is_asked_again(self):
        cache = run(Cache(S, 1), (0, 1, BOTH, 0, (0, 0), 5), (grant("a", 7, 5, 2), 6))
        self.assertEqual(cache.looked(7)[1], (("ask", 1, 0, "a", 7),))


if __name__ == "__main__":
    unittest.main()
