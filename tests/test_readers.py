"""Readers and writers, stage 14."""

import random
import unittest

from helpers import ODD, assert_raises
from wholemoment import errors
from wholemoment.lend import readers
from wholemoment.lend.readers import MOST_AGE, Reader, open_reads, open_writes

ASKED, DEED, OTHER = ("key", "a"), (("a", 3),), (("b", None), ("c", -4))
ASKS = Reader(0, 1).with_read(ASKED, 5).with_write(DEED)


def parts(reader):
    return (reader.number, reader.place, reader.read_number, reader.write_number, reader.open_read, reader.open_write,
            reader.floor)


class ExampleTest(unittest.TestCase):
    def test_the_examples(self):
        self.assertEqual([ASKS.open_read, ASKS.open_write, ASKS.deed_letter(), str(ASKS)],
                         [(1, ("key", "a"), 5), (1, (("a", 3),)), ("deed", 0, 1, (("a", 3),)), "reader 0 at 1: 1 reads, 1 writes"])
        done = ASKS.heard_done(1, (7, 4)).answered(1, (6, 9))
        self.assertEqual([done.floor, done.open_read, done.open_write, done.answered(1, (90, 90)) == done, done.fallen().floor,
                          ASKS.fallen().open_read], [(7, 9), None, None, True, (7, 0), None])
        assert_raises(self, errors.Refused, ("reason", ("open",)), ASKS.with_read, ("key", "b"), 0)

    def test_constant(self):
        self.assertEqual(readers.MOST_AGE, 1000000)


class ReaderTest(unittest.TestCase):
    def test_a_new_one_has_asked_for_nothing(self):
        self.assertEqual(parts(Reader(5, 6)), (5, 6, 0, 0, None, None, (0, 0)))
        self.assertIsNone(Reader(5, 6).deed_letter())
        self.assertEqual(str(Reader(5, 6)), "reader 5 at 6: 0 reads, 0 writes")

    def test_bounds_of_number_and_place(self):
        for number in range(6):
            for place in range(1, 7):
                self.assertEqual(parts(Reader(number, place))[:2], (number, place))
        for number in (-1, 6, True, None, "0"):
            assert_raises(self, errors.InvalidNumber, ("given", number), Reader, number, 0)
        for place in (0, 7, True, None, (1,)):
            assert_raises(self, errors.InvalidNumber, ("given", place), Reader, 0, place)

    def test_reads_and_writes_are_numbered(self):
        reader = Reader(2, 3)
        for number in range(1, 5):
            reader = reader.with_read(ASKED, number).with_write(OTHER)
            self.assertEqual(parts(reader)[2:], (number, number, (number, ASKED, number), (number, OTHER), (0, 0)))
            self.assertEqual(reader.deed_letter(), ("deed", 2, number, OTHER))
            reader = reader.answered(number, (0, 0)).heard_done(number, (0, 0))
        self.assertEqual(parts(reader)[2:], (4, 4, None, None, (0, 0)))
        dropped = reader.with_read(ASKED, 0).dropped()
        self.assertEqual(dropped.with_read(ASKED, 0).open_read[0], 6)

    def test_ages(self):
        for age in (0, MOST_AGE):
            self.assertEqual(Reader(0, 1).with_read(ASKED, age).open_read, (1, ASKED, age))
        for age in (-1, MOST_AGE + 1, True, None):
            assert_raises(self, errors.InvalidNumber, ("given", age), Reader(0, 1).with_read, ASKED, age)

    def test_one_open_read_and_one_open_write(self):
        only_read, only_write = Reader(0, 1).with_read(ASKED, 5), Reader(0, 1).with_write(DEED)
        self.assertEqual(only_read.with_write(DEED), only_write.with_read(ASKED, 5))
        assert_raises(self, errors.Refused, ("reason", ("open",)), only_read.with_read, ASKED, 5)
        assert_raises(self, errors.Refused, ("reason", ("open",)), only_write.with_write, DEED)
        # Wrong arguments are told ahead of what is open.
        assert_raises(self, errors.InvalidQuestion, None, only_read.with_read, ("key", "A"), -1)
        assert_raises(self, errors.InvalidNumber, ("given", -1), only_read.with_read, ASKED, -1)
        assert_raises(self, errors.InvalidDeed, None, only_write.with_write, ())

    def test_answers_close_the_read_and_join_the_floor(self):
        reader = ASKS.answered(1, (4, 9))
        self.assertEqual(parts(reader)[2:], (1, 1, None, ASKS.open_write, (4, 9)))
        again = reader.with_read(ASKED, 0).answered(2, (6, 2))
        self.assertEqual(again.floor, (6, 9))
        self.assertEqual(again.with_read(ASKED, 0).answered(3, (2, 3)).floor, (6, 9))

    def test_a_done_closes_the_write_and_joins_the_floor(self):
        reader = ASKS.heard_done(1, (4, 9))
        self.assertEqual(parts(reader)[2:], (1, 1, ASKS.open_read, None, (4, 9)))
        self.assertIsNone(reader.deed_letter())
        again = reader.with_write(OTHER)
        self.assertEqual(again.deed_letter(), ("deed", 0, 2, OTHER))
        self.assertEqual(again.heard_done(2, (6, 2)).floor, (6, 9))

    def test_what_is_told_twice_changes_nothing(self):
        done = ASKS.answered(1, (4, 9)).heard_done(1, (5, 10))
        for other in (done, Reader(0, 1), Reader(0, 1).with_read(ASKED, 0).dropped()):
            for number in (1, 2, 9):
                self.assertEqual(other.answered(number, (90, 90)), other)
                self.assertEqual(other.heard_done(number, (90, 90)), other)
        later = done.with_read(ASKED, 1).with_write(DEED)
        for number in (1, 3):
            self.assertEqual(later.answered(number, (90, 90)), later)
            self.assertEqual(later.heard_done(number, (90, 90)), later)

    def test_wrong_arguments_are_told_also_where_nothing_is_open(self):
        for reader in (ASKS, Reader(0, 1)):
            for call in (reader.answered, reader.heard_done):
                for number in (0, -1, True, None, "1"):
                    assert_raises(self, errors.InvalidNumber, ("given", number), call, number, None)
                for instant in (None, 1, (1,), (1, -1), (True, 1), [1, 1]):
                    assert_raises(self, errors.InvalidInstant, None, call, 1, instant)

    def test_dropped(self):
        self.assertEqual(parts(ASKS.dropped())[2:], (1, 1, None, ASKS.open_write, (0, 0)))
        for reader in (Reader(0, 1), ASKS.dropped(), ASKS.answered(1, (0, 0))):
            assert_raises(self, errors.Refused, ("reason", ("none",)), reader.dropped)

    def test_a_fall_closes_the_read_and_keeps_the_write(self):
        reader = ASKS.heard_done(1, (7, 4)).with_write(OTHER)
        self.assertEqual(parts(reader.fallen())[2:], (1, 2, None, (2, OTHER), (7, 0)))
        self.assertEqual(reader.fallen().fallen(), reader.fallen())
        self.assertEqual(Reader(0, 1).fallen(), Reader(0, 1))

    def test_equal_ones_and_unlike_ones(self):
        row = [Reader(0, 1), Reader(1, 1), Reader(0, 2), Reader(0, 1).with_read(ASKED, 5), Reader(0, 1).with_read(ASKED, 6),
               Reader(0, 1).with_read(("key", "b"), 5), Reader(0, 1).with_read(ASKED, 5).dropped(), ASKS,
               Reader(0, 1).with_write(DEED), Reader(0, 1).with_write(OTHER), Reader(0, 1).with_read(ASKED, 5).answered(1, (0, 1)),
               Reader(0, 1).with_write(DEED).heard_done(1, (0, 0))]
        for at, one in enumerate(row):
            for index, other in enumerate(row):
                self.assertIs(one == other, at == index, (at, index))
                self.assertIs(one != other, at != index)
            for value in ODD:
                self.assertFalse(one == value)

    def test_none_of_these_is_true(self):
        """[14.5]"""
        # Behind a "done" the floor is an instant, which can be far behind the moment of the deed, and ahead of others.
        self.assertEqual(ASKS.heard_done(1, (7, 4)).floor, (7, 4))
        self.assertEqual(ASKS.answered(1, (1, 1)).answered(1, (1, 1)).read_number, 1)


class WalksTest(unittest.TestCase):
    def test_floors_never_go_back_in_a_life(self):
        rng = random.Random(14)
        for _ in range(100):
            reader = Reader(rng.randrange(6), rng.randrange(1, 7))
            for _ in range(30):
                before, act = parts(reader), rng.randrange(6)
                instant, number = (rng.randrange(30), rng.randrange(30)), rng.randrange(1, 4)
                if act == 0 and reader.open_read is None:
                    after = reader.with_read(ASKED, rng.randrange(9))
                elif act == 1 and reader.open_write is None:
                    after = reader.with_write(DEED)
                elif act == 2:
                    after = reader.answered(number, instant)
                elif act == 3:
                    after = reader.heard_done(number, instant)
                elif act == 4 and reader.open_read is not None:
                    after = reader.dropped()
                else:
                    after = reader.fallen()
                    self.assertEqual(after.floor, (reader.floor[0], 0))
                self.assertEqual(parts(reader), before)
                self.assertGreaterEqual(after.floor[0], reader.floor[0])
                self.assertTrue(after.floor[1] >= reader.floor[1] or after.floor[1] == 0)
                reader = after


class OpenTest(unittest.TestCase):
    def test_open_ones(self):
        row = (Reader(0, 1), Reader(1, 1).with_read(ASKED, 0), Reader(3, 2).with_write(DEED), Reader(5, 6).with_read(ASKED, 0).with_write(DEED))
        self.assertEqual((open_reads(row), open_writes(row)), ((1, 5), (3, 5)))
        self.assertEqual((open_reads(()), open_writes(())), ((), ()))
        self.assertEqual((open_reads(row[:1]), open_writes(row[:1])), ((), ()))

    def test_wrong_ones(self):
        for wrong in ODD + [[Reader(0, 1)], (Reader(0, 1), Reader(0, 1)), (Reader(1, 1), Reader(0, 1)), (Reader(0, 1), None), Reader(0, 1)]:
            if wrong != ():
                for call in (open_reads, open_writes):
                    assert_raises(self, errors.InvalidOperation, None, call, wrong)


if __name__ == "__main__":
    unittest.main()
