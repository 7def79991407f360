"""What a cache can know [0.16], [7.1] to [7.6]."""

import random
import unittest

import told_views
from helpers import ODD, assert_raises, mutants
from wholemoment.errors import InvalidView, InvalidWorld
from wholemoment.know.views import (
    MOST_COPIES, MOST_EVENTS, MOST_LEASES, MOST_READING, either, is_either, is_view, is_world, page_stands, told_stretch,
)

A, B = ("a", 5, ((0, 1, 20),), None), ("b", 6, ((1, 2, 12),), None)
VIEW = (2, (0, 1, 6), (("a", 5, ((0, 1, 6),), None),), 2, 0)
WORLD = ((((1, 2),), ((1, 2),) * 5), (((0, 0),),), ((5, (((1, 3), None),)),))


def view_of(*copies, spread=2, readings=(0, 2, 5, 9, 14, 14, 20), age=400, floor=0):
    return (spread, readings, copies, age, floor)


class ViewTest(unittest.TestCase):
    def test_examples(self):
        old = ("a", 5, ((0, 1, 8),), None)
        self.assertEqual(told_stretch((2, (0, 3, 8, 9), (A, B), 4, 0)), ((8, 2), (9, 3)))
        self.assertIsNone(told_stretch((2, (0, 3, 8, 9), (old, B), 4, 0)))
        self.assertIs(is_view((2, (0, 9), (old,), 0, 0)), False)
        self.assertEqual([told_stretch(VIEW), is_world(VIEW, WORLD), page_stands(VIEW, WORLD)], [None, True, None])
        self.assertEqual([is_either(VIEW, ("world", WORLD)), page_stands(VIEW[:3] + (3, 0), WORLD)], [True, (1, 2)])

    def test_constants(self):
        self.assertEqual((MOST_EVENTS, MOST_READING, MOST_COPIES, MOST_LEASES), (40, 400, 6, 4))

    def test_readings(self):
        for count, right in ((0, False), (1, True), (40, True), (41, False)):
            self.assertIs(is_view((1, (3,) * count, (), 0, 0)), right, count)
        for readings, right in (((0,), True), ((400,), True), ((401,), False), ((-1, 3), False), ((3, 3, 2), False),
                                ((0, 0, 400), True), ((0, True), False), ([0], False)):
            self.assertIs(is_view((1, readings, (), 0, 0)), right, readings)

    def test_spread_age_and_floor(self):
        for spread, age, floor, right in ((1, 0, 0, True), (6, 400, 2, True), (0, 0, 0, False), (7, 0, 0, False),
                                          (1, 401, 0, False), (1, -1, 0, False), (1, 0, 3, False), (1, 0, -1, False)):
            self.assertIs(is_view((spread, (1, 1, 2), (), age, floor)), right, (spread, age, floor))

    def test_copies(self):
        for count, right in ((6, True), (7, False)):
            copies = tuple(("k" + "abcdefg"[index], index, ((0, 1, 0),), None) for index in range(count))
            self.assertIs(is_view((1, (0, 0), copies, 0, 0)), right)
            self.assertIs(is_view((1, (0, 0), copies[::-1], 0, 0)), False)
        self.assertIs(is_view((1, (0, 0), (A[:2] + (((0, 1, 0),), None),) * 2, 0, 0)), False)

    def test_leases(self):
        for count, right in ((0, False), (1, True), (4, True), (5, False)):
            leases = tuple((0, index + 1, 9) for index in range(count))
            self.assertIs(is_view((1, (0,) * 7, (("a", 1, leases, None),), 0, 0)), right, count)
        for lease, right in (((0, 1, 0), True), ((1, 1, 9), False), ((1, 0, 9), False), ((0, 2, 9), False), ((-1, 1, 9), False),
                             ((0, 1, 400), True), ((0, 1, 401), False), ((0, 1, -1), False), ((0, True, 9), False)):
            self.assertIs(is_view((1, (0, 0), (("a", 1, (lease,), None),), 0, 0)), right, lease)

    def test_leases_that_come_late(self):
        # The end is 3 + 9 // 2: the lease comes at 7, and the next one at just the greatest end, or above it.
        for readings, length, right in (((3, 7), 9, True), ((3, 8), 9, False), ((3, 8), 10, True)):
            self.assertIs(is_view((2, readings, (("a", 1, ((0, 1, length),), None),), 0, 0)), right)
        for reading, right in ((6, True), (7, False)):
            copy = ("a", 1, ((0, 1, 12), (0, 2, 4), (3, 4, 40)), None)
            self.assertIs(is_view((2, (0, 1, 2, reading, reading), (copy,), 0, 0)), right)
            longer = ("a", 1, ((0, 1, 2), (0, 2, 20), (3, 4, 40)), None)
            self.assertIs(is_view((2, (0, 1, 1, reading, reading), (longer,), 0, 0)), True)

    def test_gone(self):
        for gone, right in ((None, True), (1, False), (2, False), (3, True), (4, True), (5, False), (True, False)):
            self.assertIs(is_view((1, (0,) * 5, (("a", 1, ((0, 1, 9), (0, 2, 9)), gone),), 0, 0)), right, gone)

    def test_values_that_are_no_views(self):
        rng = random.Random(2)
        for value in ODD:
            self.assertIs(is_view(value), False)
        for view in [VIEW, view_of(A, B, floor=2)] + [told_views.draw_view(rng) for _ in range(30)]:
            self.assertTrue(is_view(view))
            for value in mutants(view):
                self.assertIs(is_view(value), told_views.is_view(value), value)


class WorldTest(unittest.TestCase):
    def test_parts_of_worlds(self):
        beats, grants, rows = WORLD
        for granted, right in (((0, 0), True), ((0, 1), True), ((1, 0), False), ((0, 2), False)):
            self.assertIs(is_world(VIEW, (beats, ((granted,),), ((5, ()),))), right, granted)
        # The parent's clock goes 6 units up to (1, 2); from (1, 3) on the lease is over.
        for instant, right in (((0, 0), False), ((0, 1), False), ((1, 0), False), ((1, 2), False), ((1, 3), True),
                               ((1, 5), True), ((2, 0), True), ((2, 1), False), ((3, 0), False), ((1, 6), False)):
            self.assertIs(is_world(VIEW, (beats, grants, ((5, ((instant, 7),)),))), right, instant)
        for row in ((5, (((1, 3), 5),)), (5, (((1, 3), 7), ((1, 3), 8))), (5, (((1, 4), 7), ((1, 3), 8))), (5, [])):
            self.assertIs(is_world(VIEW, (beats, grants, (row,))), False, row)
        self.assertIs(is_world(VIEW, (beats, grants, ((9, (((0, 0), 5),)),))), True)
        self.assertIs(is_world(VIEW, (beats, grants, ((9, (((0, 1), 5),)),))), False)
        self.assertIs(is_world(VIEW, (beats, (((0, 1),),), ((9, (((0, 1), 5), ((1, 4), 5 + 1))),))), True)
        for told in ((((1, 2),), ((0, 1),) + ((1, 2),) * 5), (((1, 2), (0, 2)), ((1, 2),) * 5), (((1, 0),), ((1, 2),) * 5),
                     (((1, 2),), ((1, 2),) * 4 + ((1, 0),)), (((1, 2),), ((2, 1),) * 3), (((2, 2),), ((2, 1),) * 2), (((1, 3),), ((1, 1),) * 5), (((1, 2),),)):
            self.assertIs(is_world(VIEW, (told, grants, ((5, ()),))), False)
        self.assertIs(is_world(VIEW, ((((1, 1),), ((2, 1), (1, 2), (2, 2))), grants, ((5, ()),))), True)

    def test_what_is_gone_is_free(self):
        view = view_of(("a", 5, ((0, 1, 300),), 3), spread=1, readings=(0, 0, 1, 1, 2))
        beats = ((), ((1, 1),), (), ((1, 1),))
        for instant, right in (((1, 1), False), ((2, 0), False), ((3, 0), True), ((4, 0), True)):
            self.assertIs(is_world(view, (beats, (((0, 0),),), ((5, ((instant, 7),)),))), right)

    def test_no_copies_and_one_event(self):
        self.assertEqual(told_stretch((3, (400,), (), 0, 0)), ((400, 0), (400, 0)))
        self.assertIs(is_world((3, (400,), (), 0, 0), ((), (), ())), True)
        self.assertEqual(page_stands((3, (400,), (), 0, 0), ((), (), ())), (0, 0))
        self.assertEqual(page_stands((3, (0, 2), (), 0, 0), ((((2, 1),),), (), ())), (0, 1))
        self.assertEqual(page_stands((3, (0, 2), (), 1, 0), ((((2, 1),),), (), ())), (0, 0))
        self.assertEqual(page_stands((3, (0, 2), (), 9, 1), ((((2, 1),),), (), ())), (1, 0))

    def test_drawn_worlds(self):
        rng = random.Random(3)
        for _ in range(120):
            view = told_views.draw_view(rng)
            world = told_views.draw_world(rng, view)
            self.assertIs(is_world(view, world), True)
            self.assertEqual(page_stands(view, world), told_views.page_stands(view, world))

    def test_values_near_a_world(self):
        rng = random.Random(4)
        seen = [0, 0]
        for _ in range(60):
            view = told_views.draw_view(rng)
            for value in mutants(told_views.draw_world(rng, view)):
                right = told_views.is_world(view, value)
                self.assertIs(is_world(view, value), right, (view, value))
                seen[right] += 1
        self.assertGreater(min(seen), 300)
        for value in ODD + [("world", WORLD), WORLD[:2], WORLD + ((),)]:
            self.assertIs(is_world(VIEW, value), False)

    def test_moved_instants_and_values(self):
        rng = random.Random(5)
        seen = [0, 0]
        for _ in range(400):
            view = told_views.draw_view(rng)
            beats, grants, rows = told_views.draw_world(rng, view)
            instants = [told[0] for told in told_views.timeline(view, beats)]
            for index, (first, changes) in enumerate(rows):
                moved = sorted({rng.choice(instants) if rng.random() < 0.4 else at: told for at, told in changes}.items())
                value = (beats, grants, rows[:index] + ((first, tuple(moved)),) + rows[index + 1:])
                right = told_views.is_world(view, value)
                self.assertIs(is_world(view, value), right, (view, value))
                seen[right] += 1
        self.assertGreater(min(seen), 100)


class EitherTest(unittest.TestCase):
    def check(self, view, told):
        self.assertEqual(told_stretch(view), told)
        found = either(view)
        self.assertIs(is_either(view, found), True, found)
        if told is not None:
            self.assertEqual(found, ("stands",) + told)
            return
        self.assertEqual(found[0], "world")
        self.assertTrue(told_views.is_world(view, found[1]))
        self.assertIsNone(told_views.page_stands(view, found[1]))

    def test_readings_and_counts_of_the_stretch(self):
        # Readings 0, 2, 5, 9, 14, 14, 20; the ends of the leases are 20, 12 and 10.
        long, other, third = ("a", 5, ((0, 1, 40),), None), ("b", 6, ((1, 2, 20),), None), ("c", None, ((0, 1, 20),), 4)
        self.check(view_of(long), ((2, 1), (20, 6)))
        self.check(view_of(long, other), ((5, 2), (12, 6)))
        self.check(view_of(long, other, third), ((5, 2), (10, 3)))
        self.check(view_of(long, age=3), ((17, 1), (20, 6)))
        self.check(view_of(long, other, age=8), ((12, 2), (12, 6)))
        self.check(view_of(long, other, floor=3), ((9, 3), (12, 6)))
        self.check(view_of(long, other, third, floor=3, age=10), ((10, 3), (10, 3)))
        self.check(view_of(), ((0, 0), (20, 6)))

    def test_old_copies(self):
        other = ("b", 6, ((1, 2, 20),), None)
        self.check(view_of(other, age=7), None)
        self.check(view_of(other, age=8), ((12, 2), (12, 6)))
        self.check(view_of(other, floor=4), None)
        self.check(view_of(("a", 5, ((0, 1, 40),), None), other, age=0), None)

    def test_gone_copies(self):
        for gone, floor, told in ((4, 3, ((9, 3), (14, 3))), (4, 4, None), (5, 4, ((14, 4), (14, 4))), (5, 5, None),
                                  (6, 5, ((14, 5), (20, 5))), (6, 6, None)):
            self.check(view_of(("a", 5, ((0, 1, 400),), gone), floor=floor), told)
        self.check(view_of(("a", 5, ((0, 1, 400),), 4), age=6), ((14, 1), (14, 3)))
        self.check(view_of(("a", 5, ((0, 1, 400),), 4), age=5), None)

    def test_lengthened_copies(self):
        longer = ("a", 5, ((0, 1, 12), (1, 2, 20), (2, 3, 14)), None)
        self.check(view_of(longer), ((2, 1), (12, 6)))
        self.check(view_of(longer, age=7), None)
        self.check(view_of(longer, age=8), ((12, 1), (12, 6)))
        shorter = ("a", 5, ((0, 1, 30), (0, 2, 10)), None)
        self.check(view_of(shorter, age=5), ((15, 1), (15, 6)))
        self.check(view_of(shorter, age=4), None)

    def test_copies_apart_from_one_another(self):
        early = ("a", 5, ((0, 1, 8),), None)
        self.check(view_of(early, ("b", 6, ((1, 3, 40),), None)), None)
        self.check(view_of(early, ("b", 6, ((1, 2, 40),), None)), None)
        self.check(view_of(("a", 5, ((0, 1, 10),), None), ("b", 6, ((1, 2, 40),), None)), ((5, 2), (5, 6)))
        for came, told in ((3, ((9, 3), (9, 3))), (4, None), (5, None)):
            readings = (0, 2, 5, 9, 9, 9, 9)
            gone = ("a", 5, ((0, 1, 400),), 4)
            self.check(view_of(gone, ("b", 0, ((1, came, 400),), None), readings=readings), told)

    def test_many_copies_of_which_one_ends(self):
        keys = "abcdef"
        for index in range(6):
            for gone in (None, 3):
                copies = [(key, None, ((0, 1, 400),), None) for key in keys]
                copies[index] = (keys[index], 0, ((0, 1, 20),), gone)
                copies[(index + 1) % 6] = (keys[(index + 1) % 6], 0, ((1, 4, 400), (2, 5, 400)), 6)
                self.check(view_of(*copies), None)

    def test_leases_of_no_length(self):
        self.check((6, (7, 7, 8), (("a", 1, ((0, 1, 0),), None),), 400, 0), ((7, 1), (7, 2)))
        self.check((6, (7, 7, 8), (("a", 1, ((0, 1, 5),), None),), 0, 0), None)
        self.check((6, (7, 7, 8), (("a", 1, ((0, 1, 6),), None),), 0, 0), ((8, 1), (8, 2)))

    def test_views_with_the_most_of_all(self):
        readings = tuple(10 * index for index in range(40))
        leases = tuple((index, index + 1, 400) for index in range(0, 8, 2))
        copies = tuple((key, 1, leases, 39) for key in "abcdef")
        self.check((1, readings, copies, 400, 0), ((10, 1), (390, 38)))
        self.check((6, readings, copies, 400, 0), ((10, 1), (126, 38)))
        self.check((6, readings, copies, 200, 0), None)
        self.check((6, (0,) * 39 + (400,), copies, 400, 0), ((0, 1), (66, 38)))

    def test_drawn_views(self):
        rng = random.Random(6)
        seen = {"stands": 0, "world": 0}
        for _ in range(1500):
            view = told_views.draw_view(rng)
            self.assertTrue(told_views.is_view(view))
            self.check(view, told_views.told_stretch(view))
            seen[either(view)[0]] += 1
            if told_views.told_stretch(view) is not None:
                for _ in range(4):
                    self.check_that_it_stands(view, told_views.draw_world(rng, view))
        self.assertGreater(min(seen.values()), 300)

    def check_that_it_stands(self, view, world):
        """[7.4]: some instant shows a reading from y to x, and at each such one the page stands."""
        (reading, count), (last, end) = told_views.told_stretch(view)
        line = told_views.timeline(view, world[0])
        shows = [told[0] for told in line if count <= told[0][0] <= end and told[1] <= last and told[2] >= reading]
        self.assertTrue(shows)
        for instant in shows:
            self.assertTrue(all(told_views.stands(row, copy[1], instant) for copy, row in zip(view[2], world[2])))
        self.assertIsNotNone(page_stands(view, world))

    def test_values_near_a_right_one(self):
        rng = random.Random(8)
        for view in [VIEW, view_of(A, B)] + [told_views.draw_view(rng) for _ in range(60)]:
            found, told = either(view), told_views.told_stretch(view)
            for value in list(mutants(found)) + [("stands",), ("world",), ("world", WORLD), found + (None,)]:
                right = type(value) is tuple and len(value) > 1 and value == ("stands",) + (told or ())
                if type(value) is tuple and len(value) == 2 and value[0] == "world" and told_views.is_world(view, value[1]):
                    right = told_views.page_stands(view, value[1]) is None
                if right and value[0] == "stands":
                    right = all(type(member) is int for pair in value[1:] for member in pair)
                self.assertIs(is_either(view, value), right, (view, value))
        ones = (1, (1, 1), (), 0, 1)
        self.assertIs(is_either(ones, ("stands", (1, 1), (1, 1))), True)
        for value in (("stands", (True, 1), (1, 1)), ("stands", (1, 1), (1, True)), ("stands", [1, 1], (1, 1)),
                      ("stood", (1, 1), (1, 1)), ["stands", (1, 1), (1, 1)], ("stands", ((1, 1), (1, 1)))):
            self.assertIs(is_either(ones, value), False)

    def test_other_worlds_are_right_too(self):
        beats, grants, rows = WORLD
        self.assertIs(is_either(VIEW, ("world", (beats, grants, ((5, (((1, 3), 0), ((1, 4), 9))),)))), True)
        self.assertIs(is_either(VIEW, ("world", (beats, grants, ((5, (((1, 4), 0),)),)))), False)
        self.assertIs(is_either(VIEW, ("world", (beats, grants, ((5, (((1, 3), 0), ((1, 5), 5))),)))), False)
        self.assertIs(is_either(VIEW[:3] + (3, 0), ("world", WORLD)), False)

    def test_errors(self):
        wrong = VIEW[:4] + (3,)
        assert_raises(self, InvalidView, None, told_stretch, wrong)
        assert_raises(self, InvalidView, None, is_world, wrong, WORLD)
        assert_raises(self, InvalidView, None, page_stands, wrong, None)
        assert_raises(self, InvalidView, None, either, None)
        assert_raises(self, InvalidView, None, is_either, wrong, ("world", WORLD))
        assert_raises(self, InvalidWorld, None, page_stands, VIEW, None)
        assert_raises(self, InvalidWorld, None, page_stands, VIEW, (WORLD[0], WORLD[1], ((5, (((1, 2), 0),)),)))


class NotTrueTest(unittest.TestCase):
    """[7.6]: what is not true has an example."""

    def test_a_copy_whose_lease_is_over_can_have_its_value_still(self):
        self.assertIs(is_world(VIEW, WORLD[:2] + (((5, ()),),)), True)
        self.assertEqual(page_stands(VIEW, WORLD[:2] + (((5, ()),),)), (1, 3))

    def test_copies_that_are_apart_were_both_true(self):
        view = view_of(("a", 5, ((0, 1, 8),), None), ("b", 6, ((1, 3, 40),), None))
        self.assertIsNone(told_stretch(view))
        for copy in view[2]:
            self.assertIsNotNone(told_stretch(view_of(copy)))

    def test_no_instant_is_the_same_in_all_worlds(self):
        view = (3, (0, 0, 3, 6), (("a", 5, ((0, 1, 6),), None),), 4, 0)
        self.assertEqual(told_stretch(view), ((2, 1), (2, 3)))
        # In the slow one the page stands at (1, 2) alone, which the fast one does not have.
        slow, fast = ((), ((1, 3),) * 3, ((1, 3),) * 3), ((), ((3, 1),), ((1, 1),) * 3)
        self.assertEqual(page_stands(view, (slow, (((0, 0),),), ((5, (((1, 3), 0),)),))), (1, 2))
        self.assertEqual(page_stands(view, (fast, (((0, 0),),), ((5, ()),))), (1, 0))
        self.assertNotIn((1, 2), [told[0] for told in told_views.timeline(view, fast)])


if __name__ == "__main__":
    unittest.main()
