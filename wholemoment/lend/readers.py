"""Readers: what each one asked for and wrote, and the floor up to which it has seen."""

from wholemoment.base.wholes import need_number
from wholemoment.cache.copies import need_instant
from wholemoment.cache.moments import joined_floor
from wholemoment.errors import InvalidOperation, Refused
from wholemoment.store.deeds import are_ascending, need_deed
from wholemoment.store.questions import need_question

MOST_AGE = 1000000

_MOST_READER = 5
_MOST_PLACE = 6


class Reader:
    """A reader at a cache, with at most one open read and one open write. It never changes."""

    def __init__(self, number, place):
        need_number(number, 0, _MOST_READER)
        need_number(place, 1, _MOST_PLACE)
        self.number = number
        self.place = place
        self.read_number = 0
        self.write_number = 0
        self.open_read = None
        self.open_write = None
        self.floor = (0, 0)

    def __eq__(self, other):
        return (isinstance(other, Reader) and self.number == other.number and self.place == other.place
                and self.read_number == other.read_number and self.write_number == other.write_number
                and self.open_read == other.open_read and self.open_write == other.open_write
                and self.floor == other.floor)

    def __str__(self):
        return f"reader {self.number} at {self.place}: {self.read_number} reads, {self.write_number} writes"

    def with_read(self, question, age):
        """The reader with a further read, which is open."""
        need_question(question)
        need_number(age, 0, MOST_AGE)
        if self.open_read is not None:
            raise Refused(("open",))
        after = self._twin()
        after.read_number += 1
        after.open_read = (after.read_number, question, age)
        return after

    def with_write(self, deed):
        """The reader with a further write, which is open."""
        need_deed(deed)
        if self.open_write is not None:
            raise Refused(("open",))
        after = self._twin()
        after.write_number += 1
        after.open_write = (after.write_number, deed)
        return after

    def deed_letter(self):
        """The letter of the open write, None without one."""
        if self.open_write is None:
            return None
        number, deed = self.open_write
        return ("deed", self.number, number, deed)

    def answered(self, number, low):
        """The reader behind an answer; one for another number than that of its open read changes nothing."""
        need_number(number, 1)
        need_instant(low)
        if self.open_read is None or self.open_read[0] != number:
            return self
        after = self._twin()
        after.open_read = None
        after.floor = joined_floor(self.floor, low)
        return after

    def heard_done(self, number, instant):
        """The reader behind a "done"; one for another number than that of its open write changes nothing."""
        need_number(number, 1)
        need_instant(instant)
        if self.open_write is None or self.open_write[0] != number:
            return self
        after = self._twin()
        after.open_write = None
        after.floor = joined_floor(self.floor, instant)
        return after

    def dropped(self):
        """The reader without its open read."""
        if self.open_read is None:
            raise Refused(("none",))
        after = self._twin()
        after.open_read = None
        return after

    def fallen(self):
        """The reader behind a fall of its cache, which counts its events anew from its rising on."""
        after = self._twin()
        after.open_read = None
        after.floor = (self.floor[0], 0)
        return after

    def _twin(self):
        """An equal reader. What this class changes is always such a new one, ahead of its being returned."""
        twin = Reader(self.number, self.place)
        twin.read_number = self.read_number
        twin.write_number = self.write_number
        twin.open_read = self.open_read
        twin.open_write = self.open_write
        twin.floor = self.floor
        return twin


def open_reads(readers):
    """The ascending tuple of the numbers of the readers whose read is open."""
    _need_readers(readers)
    return tuple([reader.number for reader in readers if reader.open_read is not None])


def open_writes(readers):
    """The ascending tuple of the numbers of the readers whose write is open."""
    _need_readers(readers)
    return tuple([reader.number for reader in readers if reader.open_write is not None])


def _need_readers(readers):
    if not isinstance(readers, tuple) or not all([isinstance(reader, Reader) for reader in readers]):
        raise InvalidOperation("readers are a tuple of readers")
    if not are_ascending([reader.number for reader in readers]):
        raise InvalidOperation("readers have ascending numbers")
