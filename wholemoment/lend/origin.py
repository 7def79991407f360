"""The origin: it has the store, puts deeds on its disk, and lends keys to its children."""

from wholemoment.base.tables import ascending
from wholemoment.base.wholes import need_number
from wholemoment.disk.disk import Disk, need_disk
from wholemoment.disk.log import Kept, block_of
from wholemoment.errors import InvalidLetter, InvalidOperation
from wholemoment.lend.books import Book
from wholemoment.lend.cache import need_rule
from wholemoment.lend.setups import children_of, need_setup
from wholemoment.net.letters import is_letter
from wholemoment.store.deeds import done_on


class Origin:
    """The origin: its store, its disk, its book, and the letters that it holds. It never changes."""

    def __init__(self, setup, *, without=None):
        need_setup(setup)
        need_rule(without)
        self.setup = setup
        self.without = without
        self.pairs = {}
        self.queue = ()
        self.numbers = {}
        self.book = Book()
        self.disk = Disk()
        self.held = ()
        self.ceiling = -1
        self.free_from = None
        self.closed = ()

    def __eq__(self, other):
        return (isinstance(other, Origin) and self.setup == other.setup and self.without == other.without
                and self.pairs == other.pairs and self.queue == other.queue and self.numbers == other.numbers
                and self.book == other.book and self.disk == other.disk and self.held == other.held
                and self.ceiling == other.ceiling and self.free_from == other.free_from)

    def __str__(self):
        return f"origin with {len(self.pairs)} keys, {len(self.queue)} waiting, {len(self.held)} held"

    @staticmethod
    def risen(setup, disk, reading, *, without=None):
        """The origin that rises with a disk."""
        need_setup(setup)
        need_disk(disk)
        need_number(reading)
        need_rule(without)
        if disk.waiting:
            raise InvalidOperation("a fall leaves no block that waits")
        kept = Kept(disk.blocks)
        origin = Origin(setup, without=without)
        origin.pairs = kept.pairs
        origin.numbers = kept.numbers
        origin.disk = disk
        origin.ceiling = kept.ceiling
        if without != "ceiling":
            origin.free_from = kept.ceiling
        return origin

    def heard(self, letter, reading):
        """The origin behind a letter."""
        self._need_letter(letter)
        need_number(reading)
        after = self._twin()
        if letter[0] == "ask":
            after._take_ask(letter[1], letter[3], letter[4], reading)
        elif letter[0] == "back":
            after.book = self.book.backed(letter[1], letter[3], letter[4])
        else:
            after._take_deed(letter[1:])
        after._put_all(reading)
        if after.queue[:1] != self.queue[:1]:
            after._recall(reading)
        return after

    def looked(self, reading):
        """The origin behind a look at its clock."""
        need_number(reading)
        after = self._twin()
        after._put_all(reading)
        after._recall(reading)
        return after

    def synced(self):
        """The origin with a synced disk that holds no letters, and the letters that it held."""
        after = self._twin()
        after.disk = self.disk.synced()
        after.held = ()
        return (after, self.held)

    def sent(self):
        """The origin, and the letters that leave without a sync."""
        if self.without != "held":
            return (self, ())
        after = self._twin()
        after.held = ()
        return (after, self.held)

    def fallen(self, kept):
        """The disk behind a fall."""
        return self.disk.fallen(kept)

    def _need_letter(self, letter):
        if not is_letter(letter) or not self._can_hear(letter):
            raise InvalidLetter("the origin hears asks and backs of its children, and deeds of readers")

    def _can_hear(self, letter):
        if letter[0] == "deed":
            return letter[1] < len(self.setup.readers)
        if letter[0] not in ("ask", "back"):
            return False
        return letter[2] == 0 and letter[1] in children_of(self.setup.parents, 0)

    def _twin(self):
        """An equal origin. What this class changes is always such a new one, ahead of its being returned."""
        twin = Origin(self.setup, without=self.without)
        twin.pairs = self.pairs
        twin.queue = self.queue
        twin.numbers = self.numbers
        twin.book = self.book
        twin.disk = self.disk
        twin.held = self.held
        twin.ceiling = self.ceiling
        twin.free_from = self.free_from
        twin.closed = self.closed
        return twin

    def _take_ask(self, child, key, asked, reading):
        if key in self.closed:
            return
        end = reading + self.setup.term
        if end > self.ceiling:
            self.ceiling = end + self.setup.span
            self.disk = self.disk.put(block_of(("lend", self.ceiling)))
        self.book = self.book.granted(child, key, asked, end)
        self.held = self.held + (("grant", 0, child, key, self.pairs.get(key), asked, self.setup.term),)

    def _take_deed(self, told):
        reader, number, _ = told
        if number <= self.numbers.get(reader, 0):
            self.held = self.held + (("done", reader, number),)
        elif number > max([early for other, early, _ in self.queue if other == reader], default=0):
            self._queue_up(self.queue + (told,))

    def _put_all(self, reading):
        """Puts the front deeds, one behind the other, as long as they can be put."""
        while self._can_put(reading):
            reader, number, deed = self.queue[0]
            self.disk = self.disk.put(block_of(("deed", reader, number, deed)))
            self.pairs = done_on(self.pairs, (deed,))
            self.numbers = ascending({**self.numbers, reader: number})
            self.held = self.held + (("done", reader, number),)
            self._queue_up(self.queue[1:])

    def _can_put(self, reading):
        if not self.queue or (self.free_from is not None and self.free_from >= reading):
            return False
        return not any([self.book.holders(key, reading) for key in self.closed])

    def _recall(self, reading):
        """Wants the closed keys back from each child that holds one."""
        for key in self.closed:
            recalls = [("recall", 0, child, key) for child in self.book.holders(key, reading)]
            self.held = self.held + tuple(recalls)

    def _queue_up(self, queue):
        self.queue = queue
        self.closed = tuple([key for key, _ in queue[0][2]]) if queue else ()
