"""The log of the origin [9.1] to [9.7]."""

import itertools
import random
import unittest

from helpers import ODD, assert_raises, mutants
from wholemoment.base.texts import sealed
from wholemoment.disk.disk import Disk
from wholemoment.disk.log import (
    Kept, block_of, can_be_read, is_record, is_short_log, read_log, record_in, short_log, uses,
)
from wholemoment.errors import InvalidBlock, InvalidDisk, InvalidRecord

ONE, TWO, LEND = ("deed", 0, 1, (("a", 5),)), ("deed", 1, 1, (("a", None), ("b", 7))), ("lend", 40)
BLOCKS = tuple([block_of(record) for record in (LEND, ONE, TWO, ONE, ("lend", 30))])
KEPT = read_log(BLOCKS)
MOST = 10 ** 60 - 1


def read(blocks):
    """What is read, told anew here: (deeds that counted, ceiling, words)."""
    found, ceiling, words = [], -1, []
    records = {block_of(record): record for record in ALL}
    for block in blocks:
        record = records.get(block)
        if record is None:
            words.append("torn" if any(other.startswith(block) for other in records) else "strange")
        elif record[0] == "lend":
            words.append("lend" if record[1] > ceiling else "low")
            ceiling = max(ceiling, record[1])
        elif all(other[1] != record[1] or other[2] < record[2] for other in found):
            words.append("deed")
            found.append(record)
        else:
            words.append("again")
    return tuple(found), ceiling, tuple(words)


ALL = [("lend", ceiling) for ceiling in (0, 5, 40)] + [
    ("deed", writer, number, ((("a", "b")[writer], number if number != 2 else None),)) for writer in (0, 1) for number in (1, 2, 3)]


def some_records(rng, most):
    return [rng.choice(ALL) for _ in range(rng.randrange(most + 1))]


def some_blocks(rng, most):
    """Blocks of records, torn ones, and strange ones that begin with a block."""
    blocks = []
    for record in some_records(rng, most):
        block = block_of(record)
        odd = rng.random()
        blocks.append(block[:rng.randrange(1, len(block))] if odd < 0.2 else block + "x;" if odd < 0.3 else block)
    return tuple(blocks)


class RecordTest(unittest.TestCase):
    def test_forms(self):
        for value in (ONE, TWO, LEND, ("lend", 0), ("lend", MOST), ("deed", 5, MOST, (("z", None),)), ("deed", 0, 1, (("a", 1),))):
            self.assertIs(is_record(value), True)
        for value in (("lend", -1), ("lend", True), ("lend", MOST + 1), ("lend",), ("lend", 1, 1), ("lent", 1), ["lend", 1],
                      ("deed", 6, 1, (("a", 5),)), ("deed", -1, 1, (("a", 5),)), ("deed", 0, 0, (("a", 5),)), ("deed", 0, 1, ()),
                      ("deed", 0, 1, (("A", 5),)), ("deed", True, 1, (("a", 5),)), ("deed", 0, True, (("a", 5),)), ("deed", 0, 1),
                      ("deed", 0, 1, (("a", 5),), 0), ("deed", 0, MOST + 1, (("a", 5),))):
            self.assertIs(is_record(value), False, value)
        for value in ODD:
            self.assertIs(is_record(value), False)

    def test_blocks_of_records(self):
        self.assertEqual(block_of(LEND), sealed(LEND))
        self.assertEqual(block_of(ONE), sealed(ONE))
        self.assertEqual(len({block_of(record) for record in ALL}), len(ALL))
        long = ("deed", 5, MOST, tuple(("k" * 7 + letter, -(10 ** 12 - 1)) for letter in "abcdef"))
        for record in ALL + [long, ("lend", MOST)]:
            self.assertEqual(record_in(block_of(record)), record)
        for value in (None, ("lend", -1), "lend", ("deed", 0, 1, ((("a", True),),))):
            assert_raises(self, InvalidRecord, None, block_of, value)
        for value in mutants(TWO):
            if not is_record(value):
                assert_raises(self, InvalidRecord, None, block_of, value)

    def test_torn_and_changed_blocks(self):
        for record in (LEND, ONE, TWO):
            block = block_of(record)
            for end in range(1, len(block)):
                self.assertIsNone(record_in(block[:end]))
                self.assertEqual(uses((block[:end],)), ("torn",))
                changed = block[:end] + ("7" if block[end] != "7" else "8") + block[end + 1:]
                self.assertIsNone(record_in(changed))
            for more in ("x", ";", block, "0"):
                self.assertIsNone(record_in(block + more))
                self.assertEqual(uses((block + more,)), ("strange",))
        # Sealed texts of plain values that are no records.
        for value in (None, 7, "torn", ("lend", -1), ("deed", 0, 0, (("a", 1),)), ("lend", "a")):
            self.assertIsNone(record_in(sealed(value)))
            self.assertEqual(uses((sealed(value), sealed(value)[:-1])), ("strange", "torn"))
        for block in ("", "x" * 1001, None, "\n", 5):
            assert_raises(self, InvalidBlock, None, record_in, block)
        self.assertIsNone(record_in("x" * 1000))
        self.assertIsNone(record_in("~"))


class KeptTest(unittest.TestCase):
    def test_examples(self):
        deeds = ((("a", 5),), (("a", None), ("b", 7)))
        self.assertEqual([KEPT.pairs, KEPT.numbers, KEPT.ceiling, KEPT.deeds, str(KEPT)],
                         [{"b": 7}, {0: 1, 1: 1}, 40, deeds, "kept 2 deeds, ceiling 40"])
        self.assertEqual(uses(BLOCKS), ("lend", "deed", "deed", "again", "low"))
        self.assertEqual(uses((BLOCKS[1][:9], "x", block_of(TWO))), ("torn", "strange", "deed"))
        self.assertEqual([record_in(BLOCKS[1][:9]), short_log(KEPT)], [None, BLOCKS[:3]])
        self.assertEqual([is_short_log(KEPT, BLOCKS[1:3] + BLOCKS[:1]), is_short_log(KEPT, BLOCKS)], [True, False])
        disk = Disk(BLOCKS[:1], BLOCKS[1:3])
        self.assertEqual([can_be_read(disk, read_log(some)) for some in (BLOCKS[:1], BLOCKS[::2][:2], BLOCKS[1:3])],
                         [True, True, False])

    def test_parts(self):
        empty = Kept()
        self.assertEqual((empty.pairs, empty.numbers, empty.ceiling, empty.records, empty.deeds, len(empty)), ({}, {}, -1, (), (), 0))
        self.assertEqual((KEPT.records, len(KEPT), str(empty)), ((ONE, TWO), 2, "kept 0 deeds, ceiling -1"))
        self.assertEqual(KEPT, Kept(BLOCKS[:3]))
        self.assertEqual(KEPT, Kept(BLOCKS[1:3] + BLOCKS[:1]))
        for blocks in (BLOCKS[:2], BLOCKS[1:3], (BLOCKS[0], BLOCKS[2], BLOCKS[1]), BLOCKS + (block_of(("lend", 41)),)):
            self.assertNotEqual(KEPT, Kept(blocks))
        for blocks in (["a"], ("",), None, "a", (1,)):
            assert_raises(self, InvalidBlock, None, Kept, blocks)
            assert_raises(self, InvalidBlock, None, read_log, blocks)
            assert_raises(self, InvalidBlock, None, uses, blocks)
        assert_raises(self, InvalidBlock, None, KEPT.behind, "")

    def test_what_counts(self):
        rows = (
            ((("lend", 0), ("lend", 0), ("lend", 1)), "lend low lend"),
            ((("deed", 0, 2, (("a", 1),)), ("deed", 0, 1, (("a", 2),)), ("deed", 0, 2, (("a", 3),)), ("deed", 0, 3, (("a", 4),))),
             "deed again again deed"),
            ((("deed", 0, 2, (("a", 1),)), ("deed", 1, 1, (("a", 2),)), ("deed", 5, 1, (("b", 2),))), "deed deed deed"),
        )
        for records, words in rows:
            self.assertEqual(" ".join(uses(tuple(map(block_of, records)))), words)
        kept = read_log(tuple(map(block_of, rows[1][0])))
        self.assertEqual((kept.pairs, kept.numbers, len(kept)), ({"a": 4}, {0: 3}, 2))

    def test_rows_of_blocks(self):
        rng = random.Random(1)
        for _ in range(250):
            blocks = some_blocks(rng, 9)
            kept = read_log(blocks)
            records, ceiling, words = read(blocks)
            self.assertEqual((kept.records, kept.ceiling, uses(blocks)), (records, ceiling, words))
            self.assertEqual(kept.deeds, tuple(record[3] for record in records))
            pairs, numbers = {}, {}
            for _, writer, number, deed in records:
                pairs.update(deed)
                numbers[writer] = number
            self.assertEqual(list(kept.pairs.items()), sorted((key, told) for key, told in pairs.items() if told is not None))
            self.assertEqual(list(kept.numbers.items()), sorted(numbers.items()))
            self.check_block_by_block(rng, blocks, kept)

    def check_block_by_block(self, rng, blocks, kept):
        parts = Kept(blocks[:rng.randrange(len(blocks) + 1)])
        start = len(parts.records)
        step = Kept()
        ceilings = []
        for block in blocks:
            before = (step.records, dict(step.pairs), dict(step.numbers), step.ceiling)
            longer = step.behind(block)
            self.assertEqual((step.records, step.pairs, step.numbers, step.ceiling), before)
            step = longer
            ceilings.append(step.ceiling)
        self.assertEqual(step, kept)
        self.assertEqual((step.pairs, step.numbers, step.deeds), (kept.pairs, kept.numbers, kept.deeds))
        self.assertEqual(kept.records[:start], parts.records)
        self.assertEqual(ceilings, sorted(ceilings))
        counting = tuple(block for block, word in zip(blocks, uses(blocks)) if word in ("deed", "lend"))
        self.assertEqual(Kept(counting), kept)


class ShortTest(unittest.TestCase):
    def test_short_logs(self):
        rng = random.Random(2)
        for _ in range(120):
            kept = read_log(some_blocks(rng, 6))
            short = short_log(kept)
            self.assertEqual(Kept(short), kept)
            self.assertIs(is_short_log(kept, short), True)
            self.assertEqual(len(short), len(kept) + (kept.ceiling != -1))
            if kept.ceiling != -1:
                self.assertEqual(record_in(short[0]), ("lend", kept.ceiling))
            for row in itertools.islice(itertools.permutations(short), 24):
                self.assertIs(is_short_log(kept, row), read(row)[:2] == (kept.records, kept.ceiling))
            for index in range(len(short)):
                self.assertIs(is_short_log(kept, short[:index] + short[index + 1:]), False)
            self.assertIs(is_short_log(kept, short + (block_of(ALL[0]),)), False)

    def test_values_that_are_no_short_log(self):
        for value in ODD + [list(BLOCKS[:3]), BLOCKS[:2], BLOCKS[:3] + ("x",), (BLOCKS[0], BLOCKS[2], BLOCKS[1])]:
            self.assertIs(is_short_log(KEPT, value), False)
        self.assertIs(is_short_log(Kept(), ()), True)
        self.assertIs(is_short_log(Kept(), ("x",)), False)
        self.assertEqual(short_log(Kept()), ())
        for value in (None, BLOCKS, (), 5):
            assert_raises(self, InvalidRecord, None, short_log, value)
            assert_raises(self, InvalidRecord, None, is_short_log, value, BLOCKS)


class FallTest(unittest.TestCase):
    """[9.4], [9.6]: what can be read behind a fall."""

    def test_all_falls(self):
        rng = random.Random(3)
        for _ in range(40):
            blocks = some_blocks(rng, 5)
            cut = rng.randrange(len(blocks) + 1)
            disk = Disk(blocks[:cut], blocks[cut:])
            found = self.readings(disk)
            for kept in [Kept(sum(pair, ())) for pair in found] + [read_log(some_blocks(rng, 5)) for _ in range(30)]:
                right = any(kept == other for other in found.values())
                self.assertIs(can_be_read(disk, kept), right)
            for kept in found.values():
                self.assertIs(can_be_read(disk, kept), True)
                self.assertEqual(kept.records[:len(read_log(disk.sure))], read_log(disk.sure).records)
                self.assertGreaterEqual(kept.ceiling, read_log(disk.sure).ceiling)

    def readings(self, disk):
        """What is read behind all falls: of a block that waits just a record's block stays, or nothing that is read."""
        whole = []
        for block in disk.waiting:
            begins = [block[:end] for end in range(1, len(block) + 1) if record_in(block[:end]) is not None]
            self.assertLessEqual(len(begins), 1)
            whole.append([()] + [(begin,) for begin in begins])
        return {(disk.sure, sum(row, ())): Kept(disk.sure + sum(row, ())) for row in itertools.product(*whole)}

    def test_each_part_of_a_block(self):
        disk = Disk(BLOCKS[:1], (BLOCKS[1] + "x", BLOCKS[2]))
        for first in range(len(disk.waiting[0]) + 1):
            for last in (0, len(BLOCKS[2]) - 1, len(BLOCKS[2])):
                kept = read_log(disk.fallen((first, last)).sure)
                told = ((ONE,) if first == len(BLOCKS[1]) else ()) + ((TWO,) if last == len(BLOCKS[2]) else ())
                self.assertEqual(kept.records, told)
                self.assertIs(can_be_read(disk, kept), True)

    def test_blocks_that_go_on(self):
        # Of a block that waits the first record alone can stay, whatever stands behind it.
        disk = Disk((), (BLOCKS[1] + BLOCKS[2],))
        for blocks, right in (((), True), (BLOCKS[1:2], True), (BLOCKS[2:3], False), (BLOCKS[1:3], False)):
            self.assertIs(can_be_read(disk, Kept(blocks)), right)

    def test_values_that_cannot_be_read(self):
        disk = Disk(BLOCKS[1:2], (block_of(("lend", 7)), BLOCKS[2], block_of(("lend", 9))))
        for ceiling, right in ((-1, True), (0, False), (6, False), (7, True), (8, False), (9, True), (10, False)):
            lend = () if ceiling == -1 else (block_of(("lend", ceiling)),)
            self.assertIs(can_be_read(disk, Kept(BLOCKS[1:3] + lend)), right)
            self.assertIs(can_be_read(disk, Kept(BLOCKS[1:2] + lend)), right)
            self.assertIs(can_be_read(disk, Kept(BLOCKS[2:3] + lend)), False)
            self.assertIs(can_be_read(disk, Kept((BLOCKS[2], BLOCKS[1]) + lend)), False)
        high = Disk((block_of(("lend", 8)),), (block_of(("lend", 7)), block_of(("lend", 9))))
        for ceiling, right in ((-1, False), (7, False), (8, True), (9, True)):
            lend = () if ceiling == -1 else (block_of(("lend", ceiling)),)
            self.assertIs(can_be_read(high, Kept(lend)), right)
        for value in ODD + [BLOCKS, (), disk]:
            self.assertIs(can_be_read(disk, value), False)
        assert_raises(self, InvalidDisk, None, can_be_read, BLOCKS, KEPT)

    def test_sequence_of_what_waits(self):
        three = ("deed", 2, 1, (("c", 1),))
        disk = Disk((), tuple(map(block_of, (ONE, TWO, ONE, three))))
        for records in itertools.permutations((ONE, TWO, three)):
            right = records in ((ONE, TWO, three), (TWO, ONE, three))
            self.assertIs(can_be_read(disk, Kept(tuple(map(block_of, records)))), right)
        self.assertIs(can_be_read(disk, Kept((block_of(ONE), block_of(three)))), True)


class NotTrueTest(unittest.TestCase):
    """[9.7]: what is not true has an example."""

    def test_a_deed_that_was_put_does_not_count(self):
        self.assertEqual(uses((BLOCKS[1], BLOCKS[1])), ("deed", "again"))

    def test_what_is_read_behind_a_fall_is_not_of_the_first_blocks(self):
        disk = Disk((), BLOCKS[1:3])
        late = read_log(disk.fallen((0, 1000)).sure)
        self.assertEqual(late.records, (TWO,))
        self.assertNotIn(late.records, [read_log(BLOCKS[1:end]).records for end in (1, 2, 3)])


if __name__ == "__main__":
    unittest.main()
