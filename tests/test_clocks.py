"""Clocks that run unlike [0.10], [4.1] to [4.7]."""

import itertools
import random
import unittest

from helpers import assert_raises, mutants
from wholemoment.errors import InvalidCourse, InvalidNumber, InvalidOperation, TooMany
from wholemoment.time import clocks
from wholemoment.time.clocks import (
    beats_for, breaking_course, clock_paper, fewest_beats, held_below, held_for, is_breaking_course, is_clock_paper,
    is_course, joined, reach, readings,
)

COURSE = ((1, 3), (2, 1), (1, 3))


def sums(course, machines):
    return tuple(sum(beat[machine] for beat in course) for machine in range(machines))


def all_courses(spread, machines, most):
    beats = list(itertools.product(range(1, spread + 1), repeat=machines))
    return [course for many in range(most + 1) for course in itertools.product(beats, repeat=many)]


def is_reference_course(value, spread, machines):
    return type(value) is tuple and len(value) <= 400 and all(
        type(beat) is tuple and len(beat) == machines and all(
            type(step) is int and 1 <= step <= spread for step in beat) for beat in value)


class CoursesTest(unittest.TestCase):
    def test_constants(self):
        self.assertEqual((clocks.MAX_SPREAD, clocks.MAX_MACHINES, clocks.MAX_BEATS), (6, 7, 400))

    def test_examples(self):
        self.assertEqual([is_course(3, 2, COURSE), is_course(2, 2, COURSE), readings(3, 2, COURSE)], [True, False, (4, 7)])
        self.assertEqual([beats_for(3, 7), reach(3, 7), reach(2, 0)], [(3, 7), (3, 21), (0, 0)])
        self.assertEqual([held_for(3, 20), held_below(3, 20, 2), held_below(3, 20, 3)], [6, 2, 0])
        self.assertEqual(clock_paper(2, (3, 7)), ("far", 1, 0))
        self.assertIs(is_clock_paper(2, (3, 6), ("course", ((1, 2),) * 3)), True)
        self.assertEqual([fewest_beats(3, (4, 7, 5)), fewest_beats(2, (3, 7))], [3, None])
        self.assertIsNone(breaking_course(2, 5, 2))
        self.assertIs(is_breaking_course(2, 5, 3, ((1, 2),) * 3), True)
        self.assertIs(is_breaking_course(2, 5, 3, ((1, 2), (2, 2))), False)

    def test_edges_of_courses(self):
        for spread, machines, value in ((1, 1, ()), (6, 7, ((6,) * 7,)), (6, 1, ((1,),) * 400), (1, 7, ((1,) * 7,) * 400)):
            self.assertIs(is_course(spread, machines, value), True)
        for spread, machines, value in ((1, 1, ((2,),)), (6, 7, ((7,) * 7,)), (6, 1, ((1,),) * 401), (3, 2, ((1,),)),
                                        (3, 2, ((1, 2, 3),)), (3, 2, ((0, 1),)), (3, 2, ((1, True),)), (3, 2, [(1, 1)]),
                                        (3, 2, ([1, 1],)), (3, 2, None), (3, 2, (1, 1)), (3, 2, {})):
            self.assertIs(is_course(spread, machines, value), False, value)
        for value in mutants(COURSE):
            self.assertIs(is_course(3, 2, value), is_reference_course(value, 3, 2), value)

    def test_spreads_and_machines(self):
        for spread in (0, 7, True, None, "1", -1):
            assert_raises(self, InvalidNumber, ("given", spread), is_course, spread, 9, None)
        for machines in (0, 8, True, None):
            assert_raises(self, InvalidNumber, ("given", machines), is_course, 6, machines, None)
            assert_raises(self, InvalidNumber, ("given", machines), readings, 1, machines, None)

    def test_readings(self):
        self.assertEqual(readings(1, 3, ()), (0, 0, 0))
        self.assertEqual(readings(2, 1, ((2,), (1,))), (3,))
        self.assertEqual(readings(6, 7, ((6,) * 7,) * 400), (2400,) * 7)
        assert_raises(self, InvalidCourse, None, readings, 2, 2, COURSE)

    def test_joined(self):
        rng = random.Random(1)
        for _ in range(200):
            one, other = [tuple((rng.randrange(1, 4), rng.randrange(1, 4)) for _ in range(rng.randrange(5))) for _ in "ab"]
            whole = joined(3, 2, one, other)
            self.assertEqual(whole, one + other)
            added = tuple(map(sum, zip(readings(3, 2, one), readings(3, 2, other))))
            self.assertEqual(readings(3, 2, whole), added)
        self.assertEqual(joined(2, 1, ((1,),), ((2,),)), ((1,), (2,)))
        half = ((1, 1),) * 200
        self.assertEqual(len(joined(1, 2, half, half)), 400)
        assert_raises(self, TooMany, ("limit", 400), joined, 1, 2, half, half + half[:1])
        assert_raises(self, InvalidCourse, None, joined, 1, 2, half, half + half + half[:1])
        assert_raises(self, InvalidCourse, None, joined, 1, 2, None, ())
        assert_raises(self, InvalidCourse, None, joined, 1, 2, (), [])


class UnitsTest(unittest.TestCase):
    def test_beats_and_reach_against_all_courses(self):
        for spread in (1, 2, 3):
            for units in range(6):
                found = [course for course in all_courses(spread, 2, 5) if sums(course, 2)[0] == units]
                beats = {len(course) for course in found}
                others = {sums(course, 2)[1] for course in found}
                self.assertEqual(beats, set(range(beats_for(spread, units)[0], beats_for(spread, units)[1] + 1)))
                self.assertEqual(others, set(range(reach(spread, units)[0], reach(spread, units)[1] + 1)))
                self.assertEqual((min(beats), max(beats)), beats_for(spread, units))

    def test_long_units(self):
        most = 10 ** 60 - 1
        self.assertEqual(beats_for(6, most), (-(-most // 6), most))
        self.assertEqual(reach(6, most), (-(-most // 6), 6 * most))
        for units in (-1, True, None, 10 ** 60):
            assert_raises(self, InvalidNumber, ("given", units), beats_for, 2, units)
            assert_raises(self, InvalidNumber, ("given", units), reach, 2, units)


class PapersTest(unittest.TestCase):
    def test_against_all_courses(self):
        for spread in (1, 2, 3):
            fewest = {}
            for course in all_courses(spread, 2, 4):
                told = sums(course, 2)
                fewest[told] = min(fewest.get(told, 99), len(course))
            for told in itertools.product(range(5), repeat=2):
                paper = clock_paper(spread, told)
                self.assertIs(is_clock_paper(spread, told, paper), True)
                self.assertEqual(paper[0], "course" if told in fewest else "far")
                self.assertEqual(fewest_beats(spread, told), fewest.get(told))

    def test_papers(self):
        rng = random.Random(2)
        for _ in range(500):
            spread, machines = rng.randrange(1, 7), rng.randrange(1, 8)
            low = rng.randrange(401)
            told = tuple(rng.randrange(low, min(400, spread * low + rng.randrange(3)) + 1) for _ in range(machines))
            paper = clock_paper(spread, told)
            if paper[0] == "course":
                self.assertTrue(is_reference_course(paper[1], spread, machines))
                self.assertEqual(sums(paper[1], machines), told)
                self.assertEqual(fewest_beats(spread, told), -(-max(told) // spread))
            else:
                self.assertGreater(told[paper[1]], spread * told[paper[2]])
                self.assertIsNone(fewest_beats(spread, told))
            self.assertIs(is_clock_paper(spread, told, paper), True)

    def test_edges_of_readings(self):
        for spread in range(1, 7):
            self.assertEqual(clock_paper(spread, (0,) * 7), ("course", ()))
            self.assertEqual(clock_paper(spread, (0, 1)), ("far", 1, 0))
            self.assertEqual(len(clock_paper(spread, (400,) * 7)[1]), 400)
            self.assertEqual(clock_paper(spread, (10, 10 * spread))[0], "course")
            self.assertEqual(clock_paper(spread, (10, 10 * spread + 1)), ("far", 1, 0))
        for told in ((), (0,) * 8, (401,), (-1,), (True,), (1, None), [1], None, 5):
            assert_raises(self, InvalidOperation, None, clock_paper, 2, told)
            assert_raises(self, InvalidOperation, None, is_clock_paper, 2, told, None)
            assert_raises(self, InvalidOperation, None, fewest_beats, 2, told)
            assert_raises(self, InvalidNumber, ("given", 0), fewest_beats, 0, told)

    def test_judge(self):
        for spread, told, paper in ((2, (3, 6), ("course", ((1, 2),) * 3)), (2, (3, 7, 1), ("far", 1, 0)),
                                    (2, (1, 7, 3), ("far", 1, 0)), (3, (4, 7), ("course", COURSE))):
            self.assertIs(is_clock_paper(spread, told, paper), True)
            for value in mutants(paper):
                self.assertIs(is_clock_paper(spread, told, value), self.is_right(spread, told, value), value)

    def is_right(self, spread, told, value):
        if type(value) is not tuple or not value:
            return False
        if value[0] == "course" and len(value) == 2:
            return is_reference_course(value[1], spread, len(told)) and sums(value[1], len(told)) == told
        if value[0] == "far" and len(value) == 3:
            if all(type(index) is int and 0 <= index < len(told) for index in value[1:]):
                return told[value[1]] > spread * told[value[2]]
        return False

    def test_judge_takes_every_right_course(self):
        for course in all_courses(2, 2, 4):
            told = sums(course, 2)
            self.assertIs(is_clock_paper(2, told, ("course", course)), True)
            self.assertIs(is_clock_paper(2, told, ("course", course + ((1, 1),))), False)
        for value in (("far", 1, 0), ("far", 2, 0), ("far", 1, 3), ("far", 2, 3)):
            self.assertIs(is_clock_paper(2, (1, 7, 9, 0), value), True)
        for value in (("far", 0, 1), ("far", 1, -1), ("far", 1, 4), ("far", True, 0), ("far", 1, False), ("near", 1, 0), ["far", 1, 0],
                      ("far", 1), ("far", 1, 0, 0), ("far", 4, 3), ("course", 1, 0), ("far",), (), None, ("course", None)):
            self.assertIs(is_clock_paper(2, (1, 7, 9, 0), value), False, value)
        self.assertEqual([is_clock_paper(2, told, ("far", 0, 1)) for told in ((2, 1), (3, 1), (0, 0))], [False, True, False])


class LeasesTest(unittest.TestCase):
    def test_held(self):
        for spread in range(1, 7):
            for length in range(60):
                held = length
                for depth in range(7):
                    self.assertEqual(held_below(spread, length, depth), held)
                    self.assertEqual(held_below(spread, length, depth), length // spread ** depth)
                    held = held_for(spread, held)
                self.assertEqual(held_for(spread, length), length // spread)
        self.assertEqual(held_for(6, 10 ** 60 - 1), (10 ** 60 - 1) // 6)
        for depth in (-1, 7, True, None):
            assert_raises(self, InvalidNumber, ("given", depth), held_below, 2, 9, depth)
        assert_raises(self, InvalidNumber, ("given", -1), held_below, 2, -1, 9)
        assert_raises(self, InvalidNumber, ("given", True), held_for, 2, True)

    def test_exactly_for_so_long(self):
        # [4.4]: some course breaks it exactly if the borrower may go more than L // r units.
        for spread in (1, 2, 3):
            courses = [sums(course, 2) for course in all_courses(spread, 2, 4)]
            for length in range(4 * spread):
                for mine in range(5):
                    breaks = any(borrower <= mine and lender > length for borrower, lender in courses)
                    if length // spread + 1 <= 4:
                        self.assertIs(breaking_course(spread, length, mine) is not None, breaks)
                        self.assertIs(mine > held_for(spread, length), breaks)

    def test_breaking_courses(self):
        for spread in range(1, 7):
            for length in (0, 1, 5, 6, 7, 36, 200, 398, 399):
                held = length // spread
                for mine in {0, 1, held - 1, held, held + 1, 398, 399} - {-1, 400}:
                    course = breaking_course(spread, length, mine)
                    self.assertIs(course is None, mine <= held)
                    if course is not None:
                        self.assertTrue(is_reference_course(course, spread, 2))
                        self.assertLessEqual(sums(course, 2)[0], mine)
                        self.assertGreater(sums(course, 2)[1], length)
                        self.assertIs(is_breaking_course(spread, length, mine, course), True)
        self.assertIsNone(breaking_course(1, 399, 399))
        self.assertEqual(breaking_course(1, 398, 399), ((1, 1),) * 399)

    def test_judge_of_breaking_courses(self):
        for course in all_courses(3, 2, 3):
            mine, length = sums(course, 2)
            if length:
                self.assertIs(is_breaking_course(3, length - 1, mine, course), True)
                self.assertIs(is_breaking_course(3, length - 1, mine - 1, course), False)
            self.assertIs(is_breaking_course(3, length, mine, course), False)
        right = ((1, 2),) * 3
        for value in mutants(right):
            self.assertIs(is_breaking_course(2, 5, 3, value), is_reference_course(value, 2, 2)
                          and sums(value, 2)[0] <= 3 and sums(value, 2)[1] > 5, value)
        self.assertIs(is_breaking_course(2, 5, 2, None), False)

    def test_errors(self):
        for number in (-1, 400, True, None):
            assert_raises(self, InvalidNumber, ("given", number), breaking_course, 2, number, 400)
            assert_raises(self, InvalidNumber, ("given", number), breaking_course, 2, 399, number)
            assert_raises(self, InvalidNumber, ("given", number), is_breaking_course, 2, 0, number, None)
        assert_raises(self, InvalidNumber, ("given", 7), breaking_course, 7, -1, -1)


class NotTrueTest(unittest.TestCase):
    """[4.7]: what is not true has an example."""

    def test_twice_as_long(self):
        self.assertEqual((held_for(2, 3), held_for(2, 6)), (1, 3))

    def test_neighbours_that_are_near(self):
        self.assertEqual(clock_paper(2, (4, 2, 1)), ("far", 0, 2))


if __name__ == "__main__":
    unittest.main()
