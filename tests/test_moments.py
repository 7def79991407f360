"""One moment [6.1] to [6.8]."""

import itertools
import random
import unittest

from helpers import assert_raises, mutants
from wholemoment.cache.copies import Copy
from wholemoment.cache.moments import (
    answer_stretch, apart, is_apart, is_in_stretch, is_refusal_paper, joined_floor, refusal_paper, stretch,
)
from wholemoment.errors import InvalidCopy, InvalidInstant, InvalidNumber, InvalidOperation

A, B, C = Copy("a", 5, (3, 1), 9), Copy("b", 6, (5, 3), 12, (11, 8)), Copy("c", 7, (10, 6), 20)
NOW = (12, 9)
KEYS = ["a" + one + other for one in "abcdefg" for other in "abcdefg"]


def some_cache(rng):
    """The instants of a cache, those of its events, and some copies that came and ended at these."""
    reading, instants = rng.randrange(3), []
    events = []
    for count in range(rng.randrange(1, 9)):
        later = reading + rng.choice((0, 0, 1, 2, 4))
        instants += [(between, count - 1) for between in range(reading + 1, later + 1) if count]
        reading = later
        instants.append((reading, count))
        events.append((reading, count))
    copies = []
    for key in rng.sample("abcdef", rng.randrange(4)):
        begin = rng.choice(events)
        behind = [event for event in events if event > begin and event[1] > begin[1]]
        gone = rng.choice(behind) if behind and rng.random() < 0.4 else None
        copies.append(Copy(key, 1, begin, begin[0] + rng.randrange(9), gone))
    return instants, events, tuple(copies)


def ends_ahead(copy, other):
    return (copy.last < other.begin[0] or copy.gone is not None
            and (copy.gone[0] < other.begin[0] or copy.gone[1] <= other.begin[1]))


def least_reading(copies, instant, age, floor):
    return max([copy.begin[0] for copy in copies] + [instant[0] - age, floor[0]])


def is_right_paper(copies, instant, age, floor, value):
    if type(value) is not tuple or not value:
        return False
    if not all(type(index) is int and 0 <= index < len(copies) for index in value[1:]):
        return False
    if value[0] == "behind" and len(value) == 1:
        return floor[0] > instant[0] or floor[1] > instant[1]
    if value[0] == "apart" and len(value) == 3:
        return ends_ahead(copies[value[1]], copies[value[2]])
    if value[0] == "old" and len(value) == 2:
        copy, low = copies[value[1]], least_reading(copies, instant, age, floor)
        return copy.last < low or copy.gone is not None and (copy.gone[0] < low or copy.gone[1] <= floor[1])
    return False


def all_papers(copies):
    indices = range(len(copies))
    return [("behind",)] + [("old", i) for i in indices] + [("apart", i, j) for i in indices for j in indices]


class StretchTest(unittest.TestCase):
    def test_examples(self):
        self.assertEqual([stretch((A, B), NOW), stretch((B, C), NOW)], [((5, 3), (9, 7)), ((10, 6), (11, 7))])
        self.assertEqual([stretch((A, B, C), NOW), apart((A, B, C), NOW), stretch((), (4, 2))],
                         [None, (0, 2), ((0, 0), (4, 2))])
        self.assertEqual([answer_stretch((A, B), NOW, 4, (0, 0)), answer_stretch((A, B), NOW, 2, (0, 0))],
                         [((8, 3), (9, 7)), None])
        self.assertEqual(answer_stretch((C,), NOW, 0, (11, 8)), ((12, 8), (12, 9)))
        self.assertEqual(refusal_paper((A,), NOW, 2, (0, 0)), ("old", 0))
        self.assertIs(is_refusal_paper((A, B, C), NOW, 99, (0, 0), ("apart", 0, 2)), True)
        self.assertEqual(joined_floor((3, 9), (5, 2)), (5, 9))

    def test_common_stretches_against_all_instants(self):
        rng = random.Random(1)
        found = {True: 0, False: 0}
        for _ in range(3000):
            instants, events, copies = some_cache(rng)
            now = events[-1]
            common = stretch(copies, now)
            covered = [instant for instant in instants if all(copy.does_cover(instant) for copy in copies)]
            self.assertIs(common is not None, bool(covered), (copies, instants))
            found[bool(covered)] += 1
            if common is None:
                self.assertTrue(ends_ahead(*[copies[index] for index in apart(copies, now)]))
            else:
                self.assertEqual([instant for instant in instants if is_in_stretch(*common, instant)], covered)
                self.assertEqual(common[0], (max([copy.begin[0] for copy in copies], default=0),
                                             max([copy.begin[1] for copy in copies], default=0)))
                self.assertIsNone(apart(copies, now))
        self.assertGreater(min(found.values()), 300)

    def test_edges_of_copies(self):
        many = tuple(Copy(key, None, (0, 0), 1) for key in KEYS[:40])
        self.assertEqual(stretch(many, (0, 0)), ((0, 0), (0, 0)))
        for value in (many + (Copy("zz", 1, (0, 0), 1),), (A, A), (A, Copy("a", 1, (0, 0), 1)), [A], A, None, (A, None), "a"):
            assert_raises(self, InvalidCopy, None, stretch, value, None)
        self.assertEqual(stretch((B, A), NOW), stretch((A, B), NOW))

    def test_the_instant_of_now(self):
        for call in (stretch, apart):
            for value in ((12,), (12, True), None):
                assert_raises(self, InvalidInstant, None, call, (A,), value)
            for value in ((2, 9), (12, 0), (2, 0)):
                assert_raises(self, InvalidOperation, None, call, (A,), value)
            for value in ((10, 9), (11, 7), (10, 7)):
                assert_raises(self, InvalidOperation, None, call, (B,), value)
        self.assertEqual(stretch((A,), (3, 1)), ((3, 1), (3, 1)))
        self.assertEqual(stretch((B,), (11, 8)), ((5, 3), (11, 7)))

    def test_edges_of_stretches(self):
        one, at_last, behind = Copy("a", 1, (3, 1), 9), Copy("b", 1, (9, 4), 9), Copy("b", 1, (10, 4), 10)
        self.assertEqual(stretch((one, at_last), NOW), ((9, 4), (9, 9)))
        self.assertEqual([stretch((one, behind), NOW), apart((one, behind), NOW)], [None, (0, 1)])
        gone = one.ended((5, 4))
        self.assertEqual(stretch((gone, Copy("b", 1, (5, 3), 9)), NOW), ((5, 3), (5, 3)))
        self.assertIsNone(stretch((gone, Copy("b", 1, (5, 4), 9)), NOW))
        self.assertIsNone(stretch((gone, Copy("b", 1, (6, 5), 9)), NOW))


class ApartTest(unittest.TestCase):
    def test_judge(self):
        rng = random.Random(2)
        for _ in range(500):
            _, events, copies = some_cache(rng)
            indices = range(len(copies))
            pairs = [pair for pair in itertools.product(indices, repeat=2) if ends_ahead(*[copies[k] for k in pair])]
            self.assertIn(apart(copies, events[-1]), pairs or [None])
            for value in itertools.product(range(-1, len(copies) + 1), repeat=2):
                self.assertIs(is_apart(copies, events[-1], value), value in pairs)

    def test_each_way_to_end_ahead(self):
        begins = Copy("b", 1, (6, 5), 20)
        for gone, last in (((5, 9), 20), ((9, 5), 20), ((9, 4), 20), ((9, 9), 5), (None, 5)):
            self.assertIs(is_apart((Copy("a", 1, (3, 1), last, gone), begins), (30, 30), (0, 1)), True)
        for gone, last in (((6, 6), 20), (None, 6), ((9, 9), 6)):
            self.assertIs(is_apart((Copy("a", 1, (3, 1), last, gone), begins), (30, 30), (0, 1)), False)

    def test_values_near_a_pair(self):
        self.assertIs(is_apart((A, B, C), NOW, (0, 2)), True)
        for value in mutants((0, 2)):
            self.assertIs(is_apart((A, B, C), NOW, value), False, value)
        two = (A, C)
        self.assertEqual([is_apart(two, NOW, (0, 1)), is_apart(two, NOW, (False, True)), is_apart(two, NOW, None)],
                         [True, False, False])
        self.assertIs(is_apart((A, B), NOW, None), False)
        assert_raises(self, InvalidOperation, None, is_apart, (A,), (2, 9), None)


class WindowTest(unittest.TestCase):
    def test_answer_stretches_against_all_instants(self):
        rng = random.Random(3)
        found = {True: 0, False: 0}
        for _ in range(3000):
            instants, events, copies = some_cache(rng)
            now, age = events[-1], rng.choice((0, 1, 2, 3, 5, 8, 10 ** 6))
            floor = (0, 0)
            for instant in rng.sample(instants, rng.randrange(min(3, len(instants)) + 1)):
                floor = joined_floor(floor, instant)
            told = answer_stretch(copies, now, age, floor)
            window = [instant for instant in instants if all(copy.does_cover(instant) for copy in copies)
                      and instant[0] >= max(now[0] - age, floor[0]) and instant[1] >= floor[1]]
            self.assertIs(told is not None, bool(window), (copies, instants, age, floor))
            found[bool(window)] += 1
            if told is not None:
                self.assertEqual([instant for instant in instants if is_in_stretch(*told, instant)], window)
            self.check_papers(copies, now, age, floor)
            if all(copy.is_true(now[0]) for copy in copies):
                self.assertTrue(is_in_stretch(*told, now))
        self.assertGreater(min(found.values()), 300)

    def check_papers(self, copies, now, age, floor):
        """[6.7]: either there is a stretch, or there are papers; each right one is taken."""
        paper = refusal_paper(copies, now, age, floor)
        right = [value for value in all_papers(copies) if is_right_paper(copies, now, age, floor, value)]
        for value in all_papers(copies):
            self.assertIs(is_refusal_paper(copies, now, age, floor, value), value in right)
        if answer_stretch(copies, now, age, floor) is None:
            self.assertIn(paper, right)
        else:
            self.assertEqual([paper, right], [None, []])

    def test_floors_that_are_behind(self):
        rng = random.Random(4)
        for _ in range(1000):
            _, events, copies = some_cache(rng)
            now = events[-1]
            floor = (rng.randrange(now[0] + 4), rng.randrange(now[1] + 3))
            self.check_papers(copies, now, rng.randrange(20), floor)
            if floor[0] > now[0] or floor[1] > now[1]:
                self.assertIsNone(answer_stretch(copies, now, 5, floor))
                self.assertIs(is_refusal_paper(copies, now, 5, floor, ("behind",)), True)

    def test_edges_of_ages(self):
        self.assertEqual(answer_stretch((A,), NOW, 3, (0, 0)), ((9, 1), (9, 9)))
        self.assertIsNone(answer_stretch((A,), NOW, 2, (0, 0)))
        self.assertEqual(answer_stretch((A,), NOW, 10 ** 6, (0, 0)), ((3, 1), (9, 9)))
        self.assertEqual(answer_stretch((), NOW, 0, (0, 0)), ((12, 0), (12, 9)))
        for call in (answer_stretch, refusal_paper):
            for age in (-1, 10 ** 6 + 1, True, None):
                assert_raises(self, InvalidNumber, ("given", age), call, (A,), NOW, age, None)
            assert_raises(self, InvalidInstant, None, call, (A,), NOW, 0, (0, True))
            assert_raises(self, InvalidInstant, None, call, (A,), (2, 0), 0, None)
            assert_raises(self, InvalidNumber, ("given", -1), call, (A,), (2, 0), -1, (0, 0))
            assert_raises(self, InvalidOperation, None, call, (A,), (2, 0), 0, (0, 0))
        assert_raises(self, InvalidInstant, None, is_refusal_paper, (A,), (2, 0), 0, None, None)
        assert_raises(self, InvalidOperation, None, is_refusal_paper, (A,), (2, 0), 0, (0, 0), None)

    def test_old_copies(self):
        # The reading y of [6.4] is also that of a begin: so a copy that ends ahead of another one is old, too.
        self.assertIs(is_refusal_paper((A, C), NOW, 99, (0, 0), ("old", 0)), True)
        self.assertIs(is_refusal_paper((A, C), NOW, 99, (0, 0), ("old", 1)), False)
        gone = Copy("a", 1, (3, 1), 50, (6, 4))
        self.assertEqual(refusal_paper((gone,), NOW, 99, (7, 0)), ("old", 0))
        self.assertEqual(refusal_paper((gone,), NOW, 99, (6, 4)), ("old", 0))
        self.assertEqual(answer_stretch((gone,), NOW, 99, (6, 3)), ((6, 3), (6, 3)))

    def test_judge(self):
        calls = (((A,), 2, (0, 0), ("old", 0)), ((A, B, C), 99, (0, 0), ("apart", 0, 2)), ((A,), 99, (13, 0), ("behind",)),
                 ((A, C), 99, (0, 0), ("apart", 0, 1)), ((A,), 99, (0, 10), ("behind",)))
        for copies, age, floor, paper in calls:
            self.assertIs(is_refusal_paper(copies, NOW, age, floor, paper), True)
            for value in mutants(paper):
                self.assertIs(is_refusal_paper(copies, NOW, age, floor, value),
                              is_right_paper(copies, NOW, age, floor, value), (paper, value))
        self.assertIs(is_refusal_paper((A,), NOW, 99, (0, 0), None), False)


class FloorsTest(unittest.TestCase):
    def test_joined(self):
        self.assertEqual([joined_floor((1, 5), (1, 5)), joined_floor((5, 0), (2, 1)), joined_floor((2, 1), (5, 0))],
                         [(1, 5), (5, 1), (5, 1)])
        assert_raises(self, InvalidInstant, None, joined_floor, (1, True), (0, 0))
        assert_raises(self, InvalidInstant, None, joined_floor, (1, 1), (0,))

    def test_in_stretch(self):
        for instant in itertools.product(range(6), repeat=2):
            self.assertIs(is_in_stretch((2, 1), (4, 3), instant), 2 <= instant[0] <= 4 and 1 <= instant[1] <= 3)
        for told in (((1,), (4, 3), (3, 3)), ((1, 1), None, (3, 3)), ((1, 1), (4, 3), (3, -1))):
            assert_raises(self, InvalidInstant, None, is_in_stretch, *told)

    def test_answers_never_go_back(self):
        # [6.5]: there are instants, one for each answer, in sequence, which never go back.
        rng = random.Random(5)
        for _ in range(400):
            instants, events, copies = some_cache(rng)
            floor, shown = (0, 0), instants[0]
            for now in events:
                known = tuple(copy for copy in copies if copy.begin <= now and copy.begin[1] <= now[1]
                              and (copy.gone is None or copy.gone[1] <= now[1]))
                told = answer_stretch(known, now, rng.choice((1, 4, 99)), floor)
                if told is not None:
                    floor = joined_floor(floor, told[0])
                    at = [instant for instant in instants if instant >= shown and is_in_stretch(*told, instant)]
                    self.assertTrue(at, (instants, copies, told))
                    shown = at[0]


class NotTrueTest(unittest.TestCase):
    """[6.8]: what is not true has an example."""

    def test_a_copy_that_is_over_has_a_part(self):
        self.assertIs(A.is_true(NOW[0]), False)
        self.assertIsNotNone(answer_stretch((A,), NOW, 5, (0, 0)))

    def test_a_greater_age_does_not_help(self):
        self.assertIsNone(answer_stretch((A, C), NOW, 10 ** 6, (0, 0)))

    def test_a_longer_copy_and_the_same_stretch(self):
        longer = Copy("b", 6, (5, 3), 20, (11, 8))
        self.assertEqual(stretch((A, longer), NOW), stretch((A, B), NOW))


if __name__ == "__main__":
    unittest.main()
