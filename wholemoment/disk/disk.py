"""The disk of the origin: blocks that are sure, blocks that wait, and what a fall can leave of them."""

from wholemoment.base.wholes import is_within
from wholemoment.errors import InvalidBlock, InvalidDisk, InvalidOperation

MOST_SIGNS = 1000
MOST_STEPS = 400

_FIRST_CODE = 32
_LAST_CODE = 126


def is_block(value):
    """Whether the value is a block."""
    if not isinstance(value, str) or not 1 <= len(value) <= MOST_SIGNS:
        return False
    return all([_FIRST_CODE <= ord(sign) <= _LAST_CODE for sign in value])


def is_kept(value):
    """Whether the value tells a fall: how many signs stay of each block that waits."""
    return isinstance(value, tuple) and all([is_within(signs, 0, MOST_SIGNS) for signs in value])


def are_steps(value):
    """Whether the value is steps."""
    if not isinstance(value, tuple) or len(value) > MOST_STEPS:
        return False
    return all([_is_step(step) for step in value])


def are_blocks(value):
    """Whether the value is a tuple of blocks."""
    return isinstance(value, tuple) and all([is_block(block) for block in value])


class Disk:
    """Blocks that are sure, and behind them blocks that wait for a sync. It never changes."""

    def __init__(self, sure=(), waiting=()):
        if not are_blocks(sure) or not are_blocks(waiting):
            raise InvalidDisk("a disk takes two tuples of blocks")
        self.sure = sure
        self.waiting = waiting
        self.blocks = sure + waiting
        self.fall_number = _fall_number(waiting)

    def __len__(self):
        return len(self.blocks)

    def __eq__(self, other):
        return isinstance(other, Disk) and self.sure == other.sure and self.waiting == other.waiting

    def __str__(self):
        return f"disk of {len(self.blocks)} blocks, {len(self.waiting)} waiting"

    def put(self, block):
        """The disk with one more block behind all others."""
        need_block(block)
        return _disk_of(self.sure, self.waiting + (block,), self.fall_number * (len(block) + 1))

    def synced(self):
        """The disk all of whose blocks are sure."""
        return _disk_of(self.blocks, (), 1)

    def fallen(self, kept):
        """The disk behind a fall."""
        if not is_kept(kept):
            raise InvalidOperation("a fall is told by a tuple of integers from 0 to 1000")
        left = [block[:signs] for block, signs in zip(self.waiting, kept) if signs > 0]
        return _disk_of(self.sure + tuple(left), (), 1)


def can_be_left(disk, value):
    """Whether the value is a row of blocks that a fall can leave."""
    need_disk(disk)
    return are_blocks(value) and _kept_for(disk, value) is not None


def fall_to(disk, blocks):
    """Any `kept` of a fall that leaves the row of blocks, None if no fall does."""
    need_disk(disk)
    need_blocks(blocks)
    return _kept_for(disk, blocks)


def is_fall_to(disk, blocks, value):
    """Whether the value is such a `kept`."""
    need_disk(disk)
    need_blocks(blocks)
    return is_kept(value) and disk.fallen(value).sure == blocks


def disk_of(steps):
    """The disk behind all steps, from the empty one on."""
    _need_steps(steps)
    return _disks(steps)[-1]


def moments_for(steps, blocks):
    """The first and the last moment at which a fall can leave the row of blocks, None if there is none."""
    _need_steps(steps)
    need_blocks(blocks)
    moments = [moment for moment, disk in enumerate(_disks(steps)) if _kept_for(disk, blocks) is not None]
    return (moments[0], moments[-1]) if moments else None


def need_block(block):
    """Refuses all but blocks."""
    if not is_block(block):
        raise InvalidBlock("a block is a string of 1 to 1,000 printable ASCII characters")


def need_blocks(blocks):
    """Refuses all but tuples of blocks."""
    if not are_blocks(blocks):
        raise InvalidBlock("blocks are a tuple of strings of 1 to 1,000 printable ASCII characters")


def need_disk(disk):
    """Refuses all but disks."""
    if not isinstance(disk, Disk):
        raise InvalidDisk("only an object of Disk is a disk")


def _need_steps(steps):
    if not are_steps(steps):
        raise InvalidOperation("steps are a tuple of at most 400 puts and syncs")


def _is_step(value):
    if not isinstance(value, tuple) or not value or not isinstance(value[0], str):
        return False
    if value[0] == "put":
        return len(value) == 2 and is_block(value[1])
    return value[0] == "sync" and len(value) == 1


def _fall_number(waiting):
    number = 1
    for block in waiting:
        number *= len(block) + 1
    return number


def _disk_of(sure, waiting, number):
    """A disk of blocks that were checked before: a long run need not check them at each step."""
    disk = Disk()
    disk.sure = sure
    disk.waiting = waiting
    disk.blocks = sure + waiting
    disk.fall_number = number
    return disk


def _disks(steps):
    """The disk at each moment."""
    disks = [Disk()]
    for step in steps:
        disks.append(disks[-1].put(step[1]) if step[0] == "put" else disks[-1].synced())
    return disks


def _kept_for(disk, blocks):
    """The `kept` that takes for each further block the first one that waits of which it is a beginning."""
    sure = len(disk.sure)
    if blocks[:sure] != disk.sure:
        return None
    kept = []
    for block in blocks[sure:]:
        while len(kept) < len(disk.waiting) and not disk.waiting[len(kept)].startswith(block):
            kept.append(0)
        if len(kept) == len(disk.waiting):
            return None
        kept.append(len(block))
    return tuple(kept)
