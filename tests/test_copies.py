"""Copies [0.11], [5.1] to [5.6]."""

import random
import unittest

from helpers import ODD, assert_raises
from wholemoment.cache.copies import Copy, Shelf, is_instant
from wholemoment.errors import InvalidCopy, InvalidInstant, InvalidKey, InvalidNumber, InvalidOperation, InvalidValue

ONE = Copy("a", 5, (3, 1), 9)
MOST = 10 ** 60 - 1


class CopyTest(unittest.TestCase):
    def test_examples(self):
        gone = ONE.ended((7, 4))
        self.assertEqual([ONE.is_true(9), ONE.is_true(10)], [True, False])
        self.assertEqual([gone.does_cover((7, 3)), gone.does_cover((7, 4))], [True, False])
        self.assertEqual(str(gone), "a = 5 from 3 to 9, gone at 7")

    def test_instants(self):
        for value in ((0, 0), (MOST, MOST), (3, 1)):
            self.assertIs(is_instant(value), True)
        for value in ((0,), (0, 0, 0), (-1, 0), (0, -1), (True, 0), (0, False), (MOST + 1, 0), (0, MOST + 1), [0, 0], None,
                      (None, 0), "00", 0):
            self.assertIs(is_instant(value), False, value)

    def test_parts(self):
        gone = Copy("b", None, (0, 0), 0, (0, 1))
        self.assertEqual((ONE.key, ONE.value, ONE.begin, ONE.last, ONE.gone), ("a", 5, (3, 1), 9, None))
        self.assertEqual((gone.key, gone.value, gone.begin, gone.last, gone.gone), ("b", None, (0, 0), 0, (0, 1)))
        self.assertEqual(str(ONE), "a = 5 from 3 to 9")
        self.assertEqual(str(Copy("a", None, (3, 1), 9, (7, 2))), "a = None from 3 to 9, gone at 7")
        self.assertEqual(ONE, Copy("a", 5, (3, 1), 9, gone=None))
        for other in (Copy("b", 5, (3, 1), 9), Copy("a", 6, (3, 1), 9), Copy("a", None, (3, 1), 9), Copy("a", 5, (2, 1), 9),
                      Copy("a", 5, (3, 2), 9), Copy("a", 5, (3, 1), 8), Copy("a", 5, (3, 1), 9, (3, 2))):
            self.assertNotEqual(ONE, other)
        self.assertNotEqual(Copy("a", 0, (3, 1), 9), Copy("a", None, (3, 1), 9))

    def test_errors(self):
        assert_raises(self, InvalidKey, None, Copy, "A", True, (3,), 2, 0)
        assert_raises(self, InvalidValue, None, Copy, "a", True, (3,), 2, 0)
        assert_raises(self, InvalidInstant, None, Copy, "a", 1, (3,), 2, 0)
        for last in (2, True, None, -1, MOST + 1):
            assert_raises(self, InvalidNumber, ("given", last), Copy, "a", 1, (3, 1), last, 0)
        assert_raises(self, InvalidInstant, None, Copy, "a", 1, (3, 1), 3, 0)
        assert_raises(self, InvalidInstant, None, Copy, "a", 1, (3, 1), 3, ())
        for gone in ((2, 9), (9, 1), (9, 0), (0, 0)):
            assert_raises(self, InvalidCopy, None, Copy, "a", 1, (3, 1), 3, gone)
        self.assertEqual(Copy("a", 1, (3, 1), 3, (3, 2)).gone, (3, 2))
        self.assertEqual(Copy("a", 1, (3, 1), 3, (50, 2)).gone, (50, 2))

    def test_true(self):
        for reading in range(13):
            self.assertIs(ONE.is_true(reading), 3 <= reading <= 9)
            self.assertIs(ONE.ended((5, 2)).is_true(reading), False)
        for reading in (-1, True, None, MOST + 1):
            assert_raises(self, InvalidNumber, ("given", reading), ONE.is_true, reading)

    def test_covered_instants(self):
        for gone in (None, (5, 4), (9, 3), (12, 3), (3, 2)):
            copy = Copy("a", 5, (3, 1), 9, gone)
            for reading in range(14):
                for count in range(7):
                    covers = 3 <= reading <= 9 and count >= 1
                    if gone is not None:
                        covers = covers and reading <= gone[0] and count < gone[1]
                    self.assertIs(copy.does_cover((reading, count)), covers)
        assert_raises(self, InvalidInstant, None, ONE.does_cover, (3, True))

    def test_ended(self):
        gone = ONE.ended((7, 4))
        self.assertEqual(gone, Copy("a", 5, (3, 1), 9, (7, 4)))
        self.assertEqual(ONE.gone, None)
        assert_raises(self, InvalidInstant, None, gone.ended, 7)
        assert_raises(self, InvalidOperation, None, gone.ended, (8, 5))
        assert_raises(self, InvalidOperation, None, gone.ended, (0, 0))
        assert_raises(self, InvalidCopy, None, ONE.ended, (2, 9))
        assert_raises(self, InvalidCopy, None, ONE.ended, (9, 1))
        self.assertEqual(ONE.ended((99, 2)).gone, (99, 2))


class ShelfTest(unittest.TestCase):
    def test_examples(self):
        shelf = Shelf((ONE,)).granted("b", None, 2, 12, (4, 2), 2)
        self.assertEqual(shelf.kept("b"), Copy("b", None, (4, 2), 8))
        self.assertEqual([shelf.true_keys(8), shelf.true_keys(9)], [("a", "b"), ("a",)])
        self.assertEqual(shelf.granted("a", 5, 6, 10, (8, 3), 2).kept("a"), Copy("a", 5, (3, 1), 11))
        self.assertEqual(shelf.granted("a", 5, 1, 10, (8, 3), 2), shelf)
        self.assertEqual(shelf.granted("a", 7, 10, 4, (11, 3), 2).kept("a"), Copy("a", 7, (11, 3), 12))
        self.assertEqual(shelf.ended("c", (9, 9)), shelf)

    def test_parts(self):
        two = Copy("b", None, (4, 2), 8)
        shelf = Shelf((ONE, two))
        self.assertEqual((shelf.copies, len(shelf), Shelf().copies, len(Shelf())), ((ONE, two), 2, (), 0))
        self.assertEqual((shelf.kept("a"), shelf.kept("b"), shelf.kept("c")), (ONE, two, None))
        self.assertEqual(("a" in shelf, "b" in shelf, "c" in shelf), (True, True, False))
        for value in ODD:
            self.assertIs(value in shelf, value == "a" and type(value) is str)
        self.assertEqual(shelf, Shelf((Copy("a", 5, (3, 1), 9), two)))
        self.assertNotEqual(shelf, Shelf((ONE,)))
        for value in ((two, ONE), (ONE, ONE), [ONE, two], ONE, None, (ONE, None), ("a",)):
            assert_raises(self, InvalidCopy, None, Shelf, value)
        assert_raises(self, InvalidKey, None, shelf.kept, "A")

    def test_true_keys(self):
        shelf = Shelf((ONE, Copy("b", 1, (0, 0), 2), Copy("c", 1, (5, 5), 20), Copy("d", 1, (0, 0), 20, (1, 1))))
        self.assertEqual([shelf.true_keys(reading) for reading in (0, 2, 3, 5, 9, 10, 20, 21)],
                         [("b",), ("b",), ("a",), ("a", "c"), ("a", "c"), ("c",), ("c",), ()])
        self.assertEqual(Shelf().true_keys(0), ())
        assert_raises(self, InvalidNumber, ("given", True), Shelf().true_keys, True)

    def test_what_a_grant_does(self):
        shelf = Shelf((ONE,))
        # The last of each grant is 5 + 8 // 2: one that comes above it changes nothing.
        self.assertEqual(shelf.granted("a", 6, 5, 8, (10, 3), 2), shelf)
        self.assertEqual(shelf.granted("b", 6, 5, 8, (10, 3), 2), shelf)
        self.assertEqual(shelf.granted("b", 6, 5, 8, (9, 3), 2).kept("b"), Copy("b", 6, (9, 3), 9))
        # One with the same value makes a copy longer that is true, never shorter.
        self.assertEqual(shelf.granted("a", 5, 6, 8, (9, 3), 2).kept("a"), Copy("a", 5, (3, 1), 10))
        self.assertEqual(shelf.granted("a", 5, 5, 7, (8, 3), 2).kept("a"), ONE)
        # Another value, or a copy that is over or gone, begins anew.
        self.assertEqual(shelf.granted("a", None, 5, 8, (8, 3), 2).kept("a"), Copy("a", None, (8, 3), 9))
        self.assertEqual(shelf.granted("a", 5, 9, 8, (10, 3), 2).kept("a"), Copy("a", 5, (10, 3), 13))
        self.assertEqual(shelf.ended("a", (4, 2)).granted("a", 5, 5, 8, (8, 3), 2).kept("a"), Copy("a", 5, (8, 3), 9))
        zero = Shelf((Copy("a", 0, (3, 1), 9),))
        self.assertEqual(zero.granted("a", None, 5, 8, (8, 3), 2).kept("a"), Copy("a", None, (8, 3), 9))
        self.assertEqual(shelf.copies, (ONE,))

    def test_keys_stay_ascending(self):
        rng = random.Random(1)
        shelf, told = Shelf(), {}
        for count in range(60):
            key = rng.choice("abcdefg")
            shelf = shelf.granted(key, rng.choice((None, 1, 2)), count, rng.randrange(40), (count, count), rng.randrange(1, 7))
            told[key] = True
            self.assertEqual([copy.key for copy in shelf.copies], sorted(told))
            self.assertEqual(len(shelf), len(told))

    def test_errors_of_grants(self):
        shelf = Shelf((ONE,))
        arguments = ["A", True, -1, -1, (3,), 0]
        right = ["a", 5, 3, 6, (4, 2), 2]
        kinds = (InvalidKey, InvalidValue, InvalidNumber, InvalidNumber, InvalidInstant, InvalidNumber)
        for index, kind in enumerate(kinds):
            kept = ("given", arguments[index]) if kind is InvalidNumber else None
            assert_raises(self, kind, kept, shelf.granted, *right[:index], *arguments[index:])
        assert_raises(self, InvalidOperation, None, shelf.granted, "a", 5, 5, 6, (4, 2), 2)
        assert_raises(self, InvalidNumber, ("given", 7), shelf.granted, "a", 5, 5, 6, (4, 2), 7)
        for instant in ((2, 5), (9, 1), (3, 0)):
            assert_raises(self, InvalidOperation, None, shelf.granted, "a", 5, 0, 60, instant, 1)
            self.assertIn("b", shelf.granted("b", 5, 0, 60, instant, 1))
        gone = shelf.ended("a", (6, 4))
        for instant in ((5, 5), (6, 4), (9, 3)):
            assert_raises(self, InvalidOperation, None, gone.granted, "a", 5, 0, 60, instant, 1)
        self.assertEqual(gone.granted("a", 5, 6, 60, (6, 5), 1).kept("a"), Copy("a", 5, (6, 5), 66))
        self.assertEqual(shelf.granted("a", 5, 3, 60, (3, 2), 1).kept("a"), Copy("a", 5, (3, 1), 63))
        self.assertEqual(shelf.granted("a", 5, 4, 60, (4, 2), 1).kept("a").last, 64)

    def test_long_leases(self):
        shelf = Shelf().granted("a", 5, 4, MOST, (4, 2), 1)
        self.assertEqual(shelf.kept("a").last, MOST + 4)
        self.assertIs(shelf.kept("a").is_true(MOST), True)
        self.assertEqual(shelf.ended("a", (5, 3)).kept("a").last, MOST + 4)
        self.assertEqual(shelf.granted("a", 5, 5, MOST, (6, 3), 1).kept("a").last, MOST + 5)
        self.assertEqual(Shelf(shelf.copies), shelf)

    def test_ended(self):
        shelf = Shelf((ONE, Copy("b", 1, (3, 1), 9, (5, 2))))
        self.assertEqual(shelf.ended("a", (7, 4)).copies, (ONE.ended((7, 4)), shelf.copies[1]))
        self.assertIs(shelf.ended("b", (0, 0)), shelf)
        self.assertIs(shelf.ended("c", (0, 0)), shelf)
        assert_raises(self, InvalidCopy, None, shelf.ended, "a", (9, 1))
        assert_raises(self, InvalidKey, None, shelf.ended, "A", None)
        assert_raises(self, InvalidInstant, None, shelf.ended, "b", None)


class LenderTest(unittest.TestCase):
    """[5.4], [5.5]: with a lender that keeps what it lent, a covered instant has the value of its copy."""

    def test_runs(self):
        rng = random.Random(7)
        checked = sum(self.check_run(rng) for _ in range(300))
        self.assertGreater(checked, 3000)

    def check_run(self, rng):
        spread = rng.randrange(1, 4)
        mine = theirs = count = 0
        value, kept_to, shelf = 0, -1, Shelf()
        asks, grants, shelves, instants = [], [], [], []
        for _ in range(60):
            act = rng.randrange(6)
            if act < 2:
                step = rng.randrange(1, spread + 1)
                # In a beat a clock passes all readings up to its new one, and the lender is as ahead of it.
                instants += [((mine + units, count), value) for units in range(step)]
                mine, theirs = mine + step, theirs + rng.randrange(1, spread + 1)
            elif act == 2:
                asks.append(mine)
            elif act == 3 and asks:
                length = rng.randrange(20)
                grants.append((value, rng.choice(asks), length))
                kept_to = max(kept_to, theirs + length)
            elif act == 4 and grants:
                told, asked, length = rng.choice(grants)
                count += 1
                longer = shelf.granted("a", told, asked, length, (mine, count), spread)
                self.check_never_shorter(shelf, longer, told, mine)
                shelf = longer
            elif act == 5 and theirs > kept_to:
                value += 1
            instants.append(((mine, count), value))
            shelves.append(shelf)
        copies = {str(copy) + str(copy.begin): copy for told in shelves for copy in told.copies}
        return self.check_covered(copies.values(), instants)

    def check_never_shorter(self, shelf, longer, told, reading):
        elder = shelf.kept("a")
        if elder is not None and elder.is_true(reading):
            if elder.value == told:
                self.assertGreaterEqual(longer.kept("a").last, elder.last)
            else:
                self.assertEqual(longer, shelf)

    def check_covered(self, copies, instants):
        checked = 0
        for copy in copies:
            for instant, value in instants:
                if copy.does_cover(instant):
                    self.assertEqual(copy.value, value)
                    checked += 1
        return checked


class NotTrueTest(unittest.TestCase):
    """[5.6]: what is not true has an example."""

    def test_a_copy_that_is_over_is_not_gone(self):
        self.assertIsNone(ONE.gone)
        self.assertIs(ONE.is_true(10), False)

    def test_a_newer_grant_that_changes_nothing(self):
        shelf = Shelf((ONE,))
        self.assertEqual(shelf.granted("a", 5, 4, 2, (5, 2), 2), shelf)

    def test_a_later_begin_and_an_earlier_last(self):
        late = Copy("b", 5, (4, 2), 5)
        self.assertTrue(late.begin > ONE.begin and late.last < ONE.last)


if __name__ == "__main__":
    unittest.main()
