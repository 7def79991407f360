"""Counts, stage 19."""

import itertools
import random
import unittest

from helpers import ODD, assert_raises, mutants
from wholemoment import errors
from wholemoment.judge import counts
from wholemoment.judge.counts import (
    are_apart, asks_of, asks_or_marks, do_cover, fewest_asks, greatest_depth, held_at, is_asks_or_marks, least_term, put_at,
)
from wholemoment.lend.books import Book
from wholemoment.lend.cache import Cache
from wholemoment.lend.origin import Origin
from wholemoment.lend.setups import Setup
from wholemoment.run.systems import System

READS = ((0, ("a",)), (3, ("a", "b")), (4, ("a",)), (9, ("b",)))


def some_reads(rng, many, most=12, keys="abc"):
    reads, at = [], rng.randrange(3)
    for _ in range(many):
        reads.append((at, tuple(sorted(rng.sample(keys, rng.randrange(1, len(keys) + 1))))))
        at += rng.choice((0, 1, 1, 2, 3, rng.randrange(most)))
    return tuple(reads)


def places(reads):
    """All pairs (reading, key) of reads, ascending."""
    return tuple(sorted({(reading, key) for reading, keys in reads for key in keys}))


def told_cover(held, reads, asks):
    return all(any(key == other and early <= reading <= early + held for early, other in asks) for reading, keys in reads for key in keys)


def told_apart(held, marks):
    return all(abs(one[0] - other[0]) > held for one, other in itertools.combinations(marks, 2) if one[1] == other[1])


def is_row_of(reads, value):
    if type(value) is not tuple:
        return False
    for pair in value:
        if type(pair) is not tuple or len(pair) != 2 or type(pair[0]) is not int or type(pair[1]) is not str or pair not in places(reads):
            return False
    return list(value) == sorted(set(value))


def told_is_paper(held, reads, number, value):
    if type(value) is not tuple or len(value) != 2 or not is_row_of(reads, value[1]):
        return False
    if value[0] == "asks":
        return len(value[1]) <= number and told_cover(held, reads, value[1])
    return value[0] == "marks" and len(value[1]) > number and told_apart(held, value[1])


class ExampleTest(unittest.TestCase):
    def test_the_examples(self):
        self.assertEqual([held_at(2, 50, 1), held_at(2, 50, 3), held_at(3, 200, 4), greatest_depth(2, 50), greatest_depth(1, 9), least_term(3, 2, 5)],
                         [25, 6, 2, 5, None, 45])
        self.assertEqual([asks_of(3, READS), fewest_asks(3, READS), do_cover(4, READS, ((0, "a"), (3, "b"), (9, "b")))],
                         [((0, "a"), (3, "b"), (4, "a"), (9, "b")), 4, True])
        self.assertEqual([are_apart(3, READS, ((0, "a"), (4, "a"))), are_apart(3, READS, ((0, "a"), (3, "a"))),
                          is_asks_or_marks(3, READS, 3, ("marks", asks_of(3, READS)))], [True, False, True])
        self.assertEqual([put_at((), 7), put_at((9, 12, 3), 7), put_at((9,), 7, 40)], [7, 13, 41])
        self.assertEqual(counts.MAX_READS, 60)


class DepthTest(unittest.TestCase):
    def test_all_of_them(self):
        for spread in range(1, 7):
            for term in (1, 2, 3, 5, 6, 7, 35, 36, 37, 199, 200):
                depths = [depth for depth in range(1, 9) if term // spread ** depth >= 1]
                self.assertEqual(greatest_depth(spread, term), None if spread == 1 else max([0] + depths))
                for depth in range(1, 7):
                    self.assertEqual(held_at(spread, term, depth), term // spread ** depth)

    def test_the_greatest_depths(self):
        self.assertEqual([greatest_depth(2, term) for term in (1, 2, 3, 4, 127, 128, 200)], [0, 1, 1, 2, 6, 7, 7])
        self.assertEqual([greatest_depth(6, term) for term in (5, 6, 35, 36, 200)], [0, 1, 1, 2, 2])

    def test_least_terms(self):
        for spread in range(1, 7):
            for depth in (1, 2, 6):
                for units in (1, 2, 7, 200):
                    term = least_term(spread, depth, units)
                    self.assertTrue(term // spread ** depth >= units > (term - 1) // spread ** depth)

    def test_what_caches_hold_of_a_key_that_is_lent_on_at_once(self):
        """[19.1], with the caches of stage 13 one below the other."""
        for spread, term in ((2, 50), (3, 20), (1, 5), (2, 3)):
            system = System(Setup(spread, (0, 1, 2, 3), term, readers=(4,))).done(("read", 0, ("key", "a"), 0))
            system = system.run((("hand", 0), ("hand", 1), ("hand", 2), ("hand", 3), ("sync",), ("hand", 4), ("hand", 5), ("hand", 6), ("hand", 7)))
            self.assertEqual([system.caches[depth].shelf.kept("a").last for depth in range(1, 5)],
                             [held_at(spread, term, depth) for depth in range(1, 5)])

    def test_below_the_greatest_depth_no_copy_lasts_one_unit(self):
        deepest = greatest_depth(2, 12)
        self.assertEqual([held_at(2, 12, depth) >= 1 for depth in (deepest, deepest + 1)], [True, False])
        # [19.6]: at the greatest depth it can be more than one unit.
        self.assertEqual((greatest_depth(3, 8), held_at(3, 8, 1)), (1, 2))

    def test_bounds(self):
        for spread in (0, 7, True, None):
            for call in ((held_at, spread, 0, 0), (greatest_depth, spread, 0), (least_term, spread, 0, 0)):
                assert_raises(self, errors.InvalidNumber, ("given", spread), *call)
        for term in (0, 201, True, None, "9"):
            assert_raises(self, errors.InvalidNumber, ("given", term), held_at, 2, term, 9)
            assert_raises(self, errors.InvalidNumber, ("given", term), greatest_depth, 2, term)
            assert_raises(self, errors.InvalidNumber, ("given", term), least_term, 2, 1, term)
        for depth in (0, 7, True, None):
            assert_raises(self, errors.InvalidNumber, ("given", depth), held_at, 2, 9, depth)
            assert_raises(self, errors.InvalidNumber, ("given", depth), least_term, 2, depth, 201)


class AsksTest(unittest.TestCase):
    def test_drawn_reads(self):
        rng = random.Random(19)
        for _ in range(150):
            reads, held = some_reads(rng, rng.randrange(9)), rng.randrange(8)
            asks = asks_of(held, reads)
            self.assertTrue(is_row_of(reads, asks) and told_cover(held, reads, asks) and told_apart(held, asks))
            self.assertEqual(fewest_asks(held, reads), len(asks))
            self.assertTrue(do_cover(held, reads, asks) and are_apart(held, reads, asks))

    def test_no_fewer_asks_cover(self):
        rng = random.Random(20)
        for _ in range(40):
            reads, held = some_reads(rng, rng.randrange(1, 5), keys="ab"), rng.randrange(5)
            covers = [row for size in range(len(places(reads)) + 1) for row in itertools.combinations(places(reads), size)
                      if told_cover(held, reads, row)]
            self.assertEqual(min(map(len, covers)), fewest_asks(held, reads))
            marks = [row for size in range(len(places(reads)) + 1) for row in itertools.combinations(places(reads), size)
                     if told_apart(held, row)]
            self.assertEqual(max(map(len, marks)), fewest_asks(held, reads))

    def test_the_asks_of_a_cache(self):
        """[19.3], with a cache of stage 13 and a parent that grants at once."""
        rng = random.Random(21)
        for _ in range(40):
            reads, spread, held = some_reads(rng, rng.randrange(1, 9)), rng.randrange(1, 4), rng.randrange(9)
            cache, asks = Cache(Setup(spread, (0,), 200), 1), []
            for number, (reading, keys) in enumerate(reads, start=1):
                cache, letters, answers = cache.read(0, number, ("sum", keys), 0, (0, 0), reading)
                for _, _, _, key, asked in letters:
                    asks.append((asked, key))
                    self.assertEqual(asked, reading)
                    cache, _, told = cache.heard(("grant", 0, 1, key, 5, asked, held * spread + rng.randrange(spread)), reading)
                    answers += told
                self.assertEqual([answer[:3] for answer in answers], [(0, number, 5 * len(keys))])
            self.assertEqual(tuple(sorted(asks)), asks_of(held, reads))

    def test_edges(self):
        self.assertEqual((asks_of(0, ()), fewest_asks(200, ()), do_cover(0, (), ()), are_apart(0, (), ())), ((), 0, True, True))
        self.assertEqual(asks_of(0, ((5, ("a",)), (5, ("a", "b")))), ((5, "a"), (5, "b")))
        self.assertEqual(asks_of(200, ((0, ("b",)), (200, ("b",)), (201, ("b",)))), ((0, "b"), (201, "b")))
        # [19.6]: with a greater h there can be as many asks.
        self.assertEqual((fewest_asks(3, ((0, ("a",)), (9, ("a",)))), fewest_asks(4, ((0, ("a",)), (9, ("a",))))), (2, 2))
        self.assertEqual(fewest_asks(3, ((0, tuple("abcdef")),)), 6)
        reads = tuple((at, ("a",)) for at in range(60))
        self.assertEqual((fewest_asks(0, reads), fewest_asks(5, reads)), (60, 10))
        for wrong in (reads + ((60, ("a",)),), ((1, ("a",)), (0, ("a",))), ((0, ()),), ((0, tuple("abcdefg")),), ((0, ("b", "a")),), [(0, ("a",))],
                      ((-1, ("a",)),), ((True, ("a",)),), ((0, ["a"]),), ((0, ("A",)),), ((0, "a"),), ((0, ("a",), 1),), (0, ("a",)), None):
            for call in (asks_of, fewest_asks, lambda held, value: do_cover(held, value, ()), lambda held, value: are_apart(held, value, ()),
                         lambda held, value: asks_or_marks(held, value, -1), lambda held, value: is_asks_or_marks(held, value, -1, None)):
                assert_raises(self, errors.InvalidOperation, None, call, 3, wrong)
                assert_raises(self, errors.InvalidNumber, ("given", 201), call, 201, wrong)
        for held in (-1, 201, True, None):
            for call in (asks_of, fewest_asks, lambda held, value: do_cover(held, value, ())):
                assert_raises(self, errors.InvalidNumber, ("given", held), call, held, READS)
        for number in (-1, 401, True, None, 10 ** 60):
            assert_raises(self, errors.InvalidNumber, ("given", number), asks_or_marks, 3, READS, number)
            assert_raises(self, errors.InvalidNumber, ("given", number), is_asks_or_marks, 3, READS, number, None)


class JudgeTest(unittest.TestCase):
    def test_all_rows(self):
        for held in (0, 1, 3, 5):
            for size in range(5):
                for row in itertools.permutations(places(READS)[:5], size):
                    right = is_row_of(READS, row)
                    self.assertIs(do_cover(held, READS, row), right and told_cover(held, READS, row))
                    self.assertIs(are_apart(held, READS, row), right and told_apart(held, row))

    def test_values_near_rows(self):
        rng = random.Random(22)
        for _ in range(12):
            reads, held = some_reads(rng, rng.randrange(1, 6)), rng.randrange(6)
            for value in list(mutants(asks_of(held, reads))) + ODD:
                right = is_row_of(reads, value)
                self.assertIs(do_cover(held, reads, value), right and told_cover(held, reads, value), value)
                self.assertIs(are_apart(held, reads, value), right and told_apart(held, value), value)

    def test_asks_that_are_not_the_first_ones(self):
        # An ask ahead of the first read of a key is none of a read that has it.
        self.assertIs(do_cover(5, ((3, ("a",)), (4, ("b",))), ((3, "a"), (3, "b"))), False)
        self.assertIs(do_cover(5, ((3, ("a",)), (3, ("b",))), ((3, "a"), (3, "b"))), True)
        self.assertIs(do_cover(0, READS, places(READS)), True)
        self.assertIs(do_cover(0, READS, places(READS)[:-1]), False)
        self.assertIs(do_cover(0, READS, places(READS)[::-1]), False)

    def test_papers(self):
        rng = random.Random(23)
        for _ in range(40):
            reads, held = some_reads(rng, rng.randrange(8)), rng.randrange(6)
            fewest = fewest_asks(held, reads)
            for number in {0, max(0, fewest - 1), fewest, fewest + 1, 400}:
                paper = asks_or_marks(held, reads, number)
                self.assertEqual(paper[0], "asks" if fewest <= number else "marks")
                self.assertIs(is_asks_or_marks(held, reads, number, paper), True)
                self.assertTrue(told_is_paper(held, reads, number, paper))
                for near in list(mutants(paper))[:60] + [("asks", places(reads)), ("marks", places(reads)), ("asks", ()), ("marks", ())]:
                    self.assertIs(is_asks_or_marks(held, reads, number, near), told_is_paper(held, reads, number, near), near)
            for value in ODD:
                self.assertIs(is_asks_or_marks(held, reads, 3, value), False)


class WaitTest(unittest.TestCase):
    def test_drawn_ones(self):
        rng = random.Random(24)
        for _ in range(100):
            ends = tuple(rng.randrange(30) for _ in range(rng.randrange(5)))
            reading, ceiling = rng.randrange(30), rng.choice((None, rng.randrange(40)))
            told = reading
            while any(told <= end for end in ends) or ceiling is not None and told <= ceiling:
                told += 1
            self.assertEqual(put_at(ends, reading, ceiling), told)

    def test_as_an_origin_does_it(self):
        """[19.5]"""
        rng, waited = random.Random(25), 0
        for _ in range(60):
            setup = Setup(2, (0, 0, 0), rng.randrange(1, 12), span=rng.choice((0, 5)))
            origin, reading, rose = Origin(setup), 0, rng.random() < 0.4
            for _ in range(rng.randrange(6)):
                reading += rng.randrange(4)
                origin = origin.heard(("ask", rng.randrange(1, 4), 0, rng.choice("abc"), 0), reading)
            ceiling = None
            if rose and origin.ceiling >= 0:
                ceiling = origin.ceiling
                origin = Origin.risen(setup, origin.synced()[0].disk, reading)
            ends = tuple(end for (_, key), (_, end) in origin.book.lent.items() if key in "ab")
            asked = origin.heard(("deed", 0, 1, (("a", 1), ("b", 2))), reading)
            at = put_at(ends, reading, ceiling)
            self.assertEqual(at, max(asked.book.when_free(("a", "b")), reading, -1 if ceiling is None else ceiling + 1))
            if ceiling is None:
                self.assertLessEqual(at, reading + setup.term + 1)
            for late in range(reading, at + 2):
                self.assertEqual(asked.looked(late).pairs == {"a": 1, "b": 2}, late >= at)
            waited += at > reading
        self.assertGreater(waited, 20)

    def test_edges(self):
        self.assertEqual((put_at((), 0), put_at((0,), 0), put_at((), 0, 0), put_at((5,), 6), put_at((5,), 5), put_at((9,), 7, 3)), (0, 1, 1, 6, 6, 10))
        self.assertEqual(put_at((10 ** 60 - 1,), 0), 10 ** 60)
        self.assertEqual(put_at((3,) * 240, 1), 4)
        for wrong in ((3,) * 241, [3], (-1,), (True,), (None,), (10 ** 60,), 3, None, Book()):
            assert_raises(self, errors.InvalidOperation, None, put_at, wrong, -1, -1)
        for wrong in (-1, True, None, "7", 10 ** 60):
            assert_raises(self, errors.InvalidNumber, ("given", wrong), put_at, (), wrong, -2)
            if wrong is not None:
                assert_raises(self, errors.InvalidNumber, ("given", wrong), put_at, (), 7, wrong)


if __name__ == "__main__":
    unittest.main()
