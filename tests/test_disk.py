"""The disk [0.14], [8.1] to [8.6]."""

import itertools
import random
import unittest

from helpers import ODD, assert_raises, mutants
from wholemoment.disk.disk import (
    MOST_SIGNS, MOST_STEPS, Disk, are_steps, can_be_left, disk_of, fall_to, is_block, is_fall_to, is_kept, moments_for,
)
from wholemoment.errors import InvalidBlock, InvalidDisk, InvalidOperation

D = Disk(("ab",), ("cde", "f", "cd"))
STEPS = (("put", "ab"), ("sync",), ("put", "cd"), ("put", "e"), ("sync",))


def all_falls(waiting):
    """All ways to keep signs of some blocks, and what each one leaves, told anew here."""
    for kept in itertools.product(*[range(len(block) + 1) for block in waiting]):
        yield kept, tuple(block[:signs] for block, signs in zip(waiting, kept) if signs)


def some_blocks(rng, most):
    return tuple("".join(rng.choice("ab") for _ in range(rng.randrange(1, 4))) for _ in range(rng.randrange(most + 1)))


def some_steps(rng, most):
    return tuple(("sync",) if rng.random() < 0.3 else ("put", rng.choice(("a", "ab", "b", "ba")))
                 for _ in range(rng.randrange(most + 1)))


def all_rows(most):
    """All rows of short blocks of two signs."""
    blocks = ["".join(signs) for size in (1, 2) for signs in itertools.product("ab", repeat=size)]
    return [row for size in range(most + 1) for row in itertools.product(blocks, repeat=size)]


class FormTest(unittest.TestCase):
    def test_blocks(self):
        self.assertEqual((MOST_SIGNS, MOST_STEPS), (1000, 400))
        for size, right in ((0, False), (1, True), (1000, True), (1001, False)):
            self.assertIs(is_block("x" * size), right)
        for code in range(300):
            self.assertIs(is_block("a" + chr(code)), 32 <= code <= 126, code)
        for value in (None, 1, True, b"a", ("a",), ["a"], "a\n"):
            self.assertIs(is_block(value), False)

    def test_kept(self):
        for value in ((), (0,), (1000,), (0, 1000, 5), (3,) * 5000):
            self.assertIs(is_kept(value), True)
        for value in ((1001,), (-1,), (True,), (0, None), [0], None, 0, "0", ("0",), (10 ** 60,)):
            self.assertIs(is_kept(value), False, value)

    def test_steps(self):
        for value in ((), STEPS, (("sync",),) * 400, (("put", "x" * 1000),)):
            self.assertIs(are_steps(value), True)
        for value in ((("sync",),) * 401, (("put", ""),), (("put", "x" * 1001),), (("put",),), (("put", "a", "b"),), (("sync", "a"),),
                      (("sunk",),), ((),), ("sync",), [("sync",)], (["sync"],), None, (("put", "\n"),), ((None, "a"),)):
            self.assertIs(are_steps(value), False, value)
        for judge in (is_block, is_kept, are_steps):
            for value in ODD:
                self.assertIs(type(judge(value)), bool)
        for value in mutants(STEPS):
            told = type(value) is tuple and all(type(step) is tuple and len(step) in (1, 2) for step in value)
            told = told and all(step == ("sync",) or step[0] == "put" and step[1:] and is_block(step[1]) for step in value)
            self.assertIs(are_steps(value), told, value)


class DiskTest(unittest.TestCase):
    def test_examples(self):
        self.assertEqual([D.fall_number, D.fallen((0, 1)).sure, D.fallen((2, 0, 9, 7)).sure, str(D)],
                         [24, ("ab", "f"), ("ab", "cd", "cd"), "disk of 4 blocks, 3 waiting"])
        self.assertEqual([can_be_left(D, ("ab", "cd", "c")), can_be_left(D, ("ab", "cd", "cde")), can_be_left(D, ("f",))],
                         [True, False, False])
        self.assertEqual([is_fall_to(D, ("ab", "cd"), kept) for kept in ((2,), (0, 0, 2), (2, 1))], [True, True, False])
        self.assertEqual([moments_for(STEPS, row) for row in (("ab", "e"), ("ab",), ("a",), ("b",))],
                         [(4, 4), (1, 4), (1, 1), None])
        self.assertEqual(disk_of(STEPS), Disk(("ab", "cd", "e")))

    def test_parts(self):
        self.assertEqual((D.sure, D.waiting, D.blocks, len(D)), (("ab",), ("cde", "f", "cd"), ("ab", "cde", "f", "cd"), 4))
        empty = Disk()
        self.assertEqual((empty.sure, empty.waiting, empty.blocks, len(empty), empty.fall_number), ((), (), (), 0, 1))
        self.assertEqual(str(empty), "disk of 0 blocks, 0 waiting")
        self.assertEqual(D, Disk(("ab",), ("cde", "f", "cd")))
        for other in (Disk(("b",), ("cde", "f", "cd")), Disk(("ab", "cde"), ("f", "cd")), Disk(("ab",), ("cde", "cd", "f")), Disk(), D.synced(), D.put("x")):
            self.assertNotEqual(D, other)
        for sure, waiting in (([], ()), ((), []), (("",), ()), ((), ("",)), (("a", 1), ()), ((), ("x" * 1001,)), (None, ()), ("a", ())):
            assert_raises(self, InvalidDisk, None, Disk, sure, waiting)
        self.assertEqual(Disk((), ("x" * 1000,)).fall_number, 1001)

    def test_put_and_synced(self):
        disk = Disk().put("ab").put("ab")
        self.assertEqual((disk.sure, disk.waiting, disk.blocks, disk.fall_number), ((), ("ab", "ab"), ("ab", "ab"), 9))
        disk = disk.synced().put("c")
        self.assertEqual((disk.sure, disk.waiting, disk.blocks, disk.fall_number), (("ab", "ab"), ("c",), ("ab", "ab", "c"), 2))
        self.assertEqual((len(disk), str(disk)), (3, "disk of 3 blocks, 1 waiting"))
        self.assertEqual(disk.synced().synced(), Disk(("ab", "ab", "c")))
        self.assertEqual(disk.synced().fall_number, 1)
        assert_raises(self, InvalidBlock, None, disk.put, "")
        self.assertEqual(disk, Disk(("ab", "ab"), ("c",)))

    def test_falls(self):
        for kept, left in (((), ()), ((0, 0, 0), ()), ((3, 1, 2), ("cde", "f", "cd")), ((1000, 1000, 1000, 1000), ("cde", "f", "cd")),
                           ((1,), ("c",)), ((0, 1, 1, 7), ("f", "c")), ((0, 0, 0, 5), ())):
            fallen = D.fallen(kept)
            self.assertEqual((fallen.sure, fallen.waiting, fallen.blocks), (("ab",) + left, (), ("ab",) + left))
            self.assertEqual(fallen.fall_number, 1)
        for kept in ((1001,), (-1,), [0], None, (True,)):
            assert_raises(self, InvalidOperation, None, D.fallen, kept)

    def test_how_many_falls(self):
        rng = random.Random(1)
        for _ in range(60):
            disk = Disk(some_blocks(rng, 2), some_blocks(rng, 4))
            falls = list(all_falls(disk.waiting))
            self.assertEqual(disk.fall_number, len(falls))
            for kept, left in falls:
                self.assertEqual(disk.fallen(kept).sure, disk.sure + left)


class LeftTest(unittest.TestCase):
    def test_exactly_these_can_be_left(self):
        rng = random.Random(2)
        rows = all_rows(3)
        for _ in range(60):
            disk = Disk(tuple("a" for _ in range(rng.randrange(2))), some_blocks(rng, 3))
            left = {disk.sure + row for _, row in all_falls(disk.waiting)}
            for row in sorted(left) + [disk.sure + told for told in rows] + rows[:40]:
                self.assertIs(can_be_left(disk, row), row in left)
                kept = fall_to(disk, row)
                if row in left:
                    self.assertIs(is_fall_to(disk, row, kept), True)
                    self.assertEqual(disk.fallen(kept).sure, row)
                else:
                    self.assertIsNone(kept)

    def test_all_falls_to_a_row_are_right(self):
        rng = random.Random(3)
        for _ in range(60):
            disk = Disk((), some_blocks(rng, 3))
            falls = list(all_falls(disk.waiting))
            for _, row in falls:
                for kept, left in falls:
                    self.assertIs(is_fall_to(disk, row, kept), left == row)
                    self.assertIs(is_fall_to(disk, row, kept + (7, 0)), left == row)

    def test_odd_values(self):
        for value in ODD + [["ab"], ("ab", 1), ("ab", ""), "ab", ("ab", "x" * 1001)]:
            self.assertIs(can_be_left(D, value), False)
            self.assertIs(is_fall_to(D, ("ab", "cd", "f"), value), False)
        self.assertIs(is_fall_to(D, ("ab",), ()), True)
        self.assertIs(is_fall_to(D, ("ab",), (True,)), False)
        self.assertIs(is_fall_to(D, ("ab", "c"), [1]), False)
        self.assertIs(is_fall_to(D, ("ab", "cde", "f", "cd"), (1000, 1000, 1000)), True)
        self.assertIs(is_fall_to(D, ("ab", "cde", "f", "cd"), (1000, 1000, 1001)), False)

    def test_errors(self):
        for call, more in ((can_be_left, (None,)), (fall_to, (None,)), (is_fall_to, (None, None))):
            assert_raises(self, InvalidDisk, None, call, None, *more)
        assert_raises(self, InvalidBlock, None, fall_to, D, ["ab"])
        assert_raises(self, InvalidBlock, None, is_fall_to, D, ("",), (0,))
        for call, more in ((disk_of, ()), (moments_for, (None,))):
            assert_raises(self, InvalidOperation, None, call, (("sync",),) * 401, *more)
        assert_raises(self, InvalidBlock, None, moments_for, STEPS, ("a", ""))


class StepsTest(unittest.TestCase):
    def test_disk_of_steps(self):
        self.assertEqual(disk_of(()), Disk())
        self.assertEqual(disk_of(STEPS[:4]), Disk(("ab",), ("cd", "e")))
        self.assertEqual(disk_of((("put", "a"),) * 400), Disk((), ("a",) * 400))

    def test_moments(self):
        rng = random.Random(4)
        rows = all_rows(2)
        seen = [0, 0]
        for _ in range(50):
            steps = some_steps(rng, 7)
            for row in rows + [("a", "ab", "b"), ("ab", "ab", "ba", "b")]:
                moments = [moment for moment in range(len(steps) + 1) if can_be_left(disk_of(steps[:moment]), row)]
                told = (moments[0], moments[-1]) if moments else None
                self.assertEqual(moments_for(steps, row), told)
                if moments:
                    self.assertEqual(moments, list(range(moments[0], moments[-1] + 1)))
                seen[told is None] += 1
        self.assertGreater(min(seen), 50)

    def test_many_steps(self):
        steps = (("put", "x" * 1000),) * 200 + (("sync",),) + (("put", "y" * 1000),) * 199
        self.assertEqual(moments_for(steps, ("x" * 1000,) * 200), (200, 400))
        self.assertEqual(moments_for(steps, ("x" * 999,) * 200), (200, 200))
        self.assertEqual(moments_for(steps, ("x" * 1000,) * 200 + ("y",) * 100), (301, 400))
        self.assertEqual(moments_for(steps, ()), (0, 200))

    def test_nothing_sure_is_lost(self):
        rng = random.Random(5)
        for _ in range(80):
            disk, rows, late = Disk(), [], []
            for step in range(25):
                act = rng.randrange(5)
                if act < 3:
                    block = "b" + str(step)
                    disk = disk.put(block)
                    late.append(block)
                else:
                    disk = disk.synced() if act == 3 else disk.fallen(tuple(rng.randrange(4) for _ in range(rng.randrange(4))))
                for sure, put in rows:
                    self.assertEqual(disk.sure[:len(sure)], sure)
                    behind = iter(late[put:])
                    for block in disk.sure[len(sure):]:
                        self.assertTrue(any(told.startswith(block) for told in behind))
                # What waits was put ahead of this time, but is not sure yet.
                rows.append((disk.sure, len(late) - len(disk.waiting)))


class NotTrueTest(unittest.TestCase):
    """[8.6]: what is not true has an example."""

    def test_a_block_that_was_put_can_be_lost(self):
        self.assertEqual(Disk().put("a").fallen(()), Disk())

    def test_a_row_that_cannot_be_left_later(self):
        self.assertTrue(can_be_left(disk_of(STEPS[:1]), ()))
        self.assertFalse(can_be_left(disk_of(STEPS[:2]), ()))

    def test_a_block_can_be_left_alone(self):
        self.assertEqual(Disk((), ("a", "b")).fallen((0, 1)).sure, ("b",))

    def test_falls_to_equal_rows_keep_unlike_numbers(self):
        disk = Disk((), ("ab", "a"))
        self.assertEqual(disk.fallen((1, 0)), disk.fallen((0, 1)))


if __name__ == "__main__":
    unittest.main()
