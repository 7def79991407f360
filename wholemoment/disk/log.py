"""The log of the origin: its records, and what is read of the blocks that a disk still has."""

from wholemoment.base.tables import ascending
from wholemoment.base.texts import parted, sealed, unsealed
from wholemoment.base.wholes import is_within
from wholemoment.disk.disk import are_blocks, need_block, need_blocks, need_disk
from wholemoment.errors import InvalidRecord
from wholemoment.store.deeds import done_on, is_deed

_MOST_WRITER = 5


def is_record(value):
    """Whether the value is a record."""
    if not isinstance(value, tuple) or not value or not isinstance(value[0], str):
        return False
    if value[0] == "lend":
        return len(value) == 2 and is_within(value[1], 0)
    if value[0] != "deed" or len(value) != 4:
        return False
    return is_within(value[1], 0, _MOST_WRITER) and is_within(value[2], 1) and is_deed(value[3])


def block_of(record):
    """The block of a record."""
    if not is_record(record):
        raise InvalidRecord("a record tells a deed of a writer, or a ceiling")
    return sealed(record)


def record_in(block):
    """The record with this block, None for each other block."""
    need_block(block)
    return _whole_record(block)


class Kept:
    """What is read of some blocks. It never changes."""

    def __init__(self, blocks=()):
        need_blocks(blocks)
        self.pairs = {}
        self.numbers = {}
        self.ceiling = -1
        self.records = ()
        self.deeds = ()
        self._take(blocks, self)

    def __len__(self):
        return len(self.records)

    def __eq__(self, other):
        return isinstance(other, Kept) and self.records == other.records and self.ceiling == other.ceiling

    def __str__(self):
        return f"kept {len(self.records)} deeds, ceiling {self.ceiling}"

    def behind(self, block):
        """What is read with one more block."""
        need_block(block)
        longer = Kept()
        longer._take((block,), self)
        return longer

    def _take(self, blocks, early):
        """Becomes what is read of some blocks behind what was read ahead of them."""
        numbers = dict(early.numbers)
        ceiling = early.ceiling
        records = []
        for block in blocks:
            record = _whole_record(block)
            if record is None or not _does_count(record, numbers, ceiling):
                continue
            if record[0] == "lend":
                ceiling = record[1]
            else:
                numbers[record[1]] = record[2]
                records.append(record)
        deeds = tuple([record[3] for record in records])
        self.pairs = done_on(early.pairs, deeds)
        self.numbers = ascending(numbers)
        self.ceiling = ceiling
        self.records = early.records + tuple(records)
        self.deeds = early.deeds + deeds


def read_log(blocks):
    """What is read of some blocks."""
    return Kept(blocks)


def uses(blocks):
    """For each block a word that tells whether it counts, or why it is passed over."""
    need_blocks(blocks)
    words = []
    kept = Kept()
    for block in blocks:
        words.append(_use(block, kept))
        kept = kept.behind(block)
    return tuple(words)


def short_log(kept):
    """The fewest blocks of which the same is read: the ceiling first, if there is one."""
    _need_kept(kept)
    blocks = [block_of(record) for record in kept.records]
    if kept.ceiling != -1:
        blocks.insert(0, block_of(("lend", kept.ceiling)))
    return tuple(blocks)


def is_short_log(kept, value):
    """Whether the value is as few blocks as can be of which the same is read."""
    _need_kept(kept)
    if not are_blocks(value) or len(value) != len(short_log(kept)):
        return False
    return Kept(value) == kept


def can_be_read(disk, value):
    """Whether the value is what is read behind some fall of a disk."""
    need_disk(disk)
    if not isinstance(value, Kept):
        return False
    sure = Kept(disk.sure)
    if value.records[:len(sure)] != sure.records:
        return False
    waiting = [_first_record(block) for block in disk.waiting]
    if not _stand_in(value.records[len(sure):], waiting):
        return False
    if value.ceiling == sure.ceiling:
        return True
    return value.ceiling > sure.ceiling and ("lend", value.ceiling) in waiting


def _need_kept(kept):
    if not isinstance(kept, Kept):
        raise InvalidRecord("only an object of Kept is what was read")


def _whole_record(block):
    found = unsealed(block)
    return found[1] if found[0] == "whole" and is_record(found[1]) else None


def _first_record(block):
    """The record with whose block a block begins, None if there is none."""
    values = parted(block)[0]
    return values[0] if values and is_record(values[0]) else None


def _does_count(record, numbers, ceiling):
    if record[0] == "lend":
        return record[1] > ceiling
    return record[2] > numbers.get(record[1], 0)


def _use(block, kept):
    record = _whole_record(block)
    if record is None:
        return "torn" if unsealed(block)[0] == "torn" else "strange"
    if _does_count(record, kept.numbers, kept.ceiling):
        return record[0]
    return "low" if record[0] == "lend" else "again"


def _stand_in(records, waiting):
    """Whether some records stand among those that wait, in their sequence."""
    at = 0
    for record in records:
        while at < len(waiting) and waiting[at] != record:
            at += 1
        if at == len(waiting):
            return False
        at += 1
    return True
