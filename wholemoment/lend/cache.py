"""Caches: copies that a parent lent, what is lent on, and answers from copies alone."""

from wholemoment.base.tables import ascending
from wholemoment.base.wholes import is_within, need_number
from wholemoment.cache.copies import Shelf, need_instant
from wholemoment.cache.moments import answer_stretch
from wholemoment.errors import InvalidNumber, InvalidOperation
from wholemoment.lend.books import Book
from wholemoment.lend.setups import children_of, need_setup
from wholemoment.net.letters import goal, need_letter
from wholemoment.store.questions import answer_of_page, keys_of, need_question
from wholemoment.time.clocks import held_for

RULES = (
    "spread", "stamp", "fence", "since", "wait", "below", "within", "common", "late", "ceiling", "held",
)

_MOST_AGE = 10 ** 6


class Cache:
    """A cache: its copies, its book, and what it waits for. It never changes."""

    def __init__(self, setup, number, *, since=None, without=None):
        need_setup(setup)
        need_number(number, 1, setup.caches)
        if since is not None:
            need_number(since)
        need_rule(without)
        self.setup = setup
        self.number = number
        self.since = since
        self.without = without
        self.parent = setup.parents[number - 1]
        self.children = children_of(setup.parents, number)
        self.shelf = Shelf()
        self.book = Book()
        self.turns = 0
        self.asked = {}
        self.fence = {}
        self.owed = ()
        self.wants = ()
        self.reads = ()

    def __eq__(self, other):
        return (isinstance(other, Cache) and self.setup == other.setup and self.number == other.number
                and self.since == other.since and self.without == other.without and self.shelf == other.shelf
                and self.book == other.book and self.turns == other.turns and self.asked == other.asked
                and self.fence == other.fence and self.owed == other.owed and self.wants == other.wants
                and self.reads == other.reads)

    def __str__(self):
        return f"cache {self.number}: {len(self.shelf)} copies, {len(self.reads)} reads, {self.turns} events"

    def heard(self, letter, reading):
        """The cache behind a letter, the letters that go, and the answers."""
        need_letter(letter)
        need_number(reading)
        self._need_goal(letter)
        self._need_life(reading)
        after = self._next()
        return after._finished(after._taken(letter, reading), reading)

    def looked(self, reading):
        """The cache behind a look at its clock, the letters that go, and the answers."""
        need_number(reading)
        self._need_life(reading)
        return self._next()._finished([], reading)

    def read(self, reader, number, question, age, floor, reading):
        """The cache behind a read of one of its readers, the letters that go, and the answers."""
        self._need_reader(reader)
        need_number(number, 1)
        need_question(question)
        need_number(age, 0, _MOST_AGE)
        need_instant(floor)
        need_number(reading)
        self._need_life(reading)
        after = self._next()
        after.reads = _placed(self.reads, (reader, number, question, age, floor), 1)
        return after._finished([], reading)

    def forgotten(self, reader):
        """The cache without the read of a reader that waits; this is no event."""
        self._need_reader(reader)
        after = self._twin()
        after.reads = tuple([told for told in self.reads if told[0] != reader])
        return after

    def _has_reader(self, reader):
        readers = self.setup.readers
        return is_within(reader, 0, len(readers) - 1) and readers[reader] == self.number

    def _need_reader(self, reader):
        if not self._has_reader(reader):
            raise InvalidNumber(reader)

    def _need_goal(self, letter):
        kind, number = goal(letter)
        if kind == "machine" and number == self.number:
            return
        if kind == "machine" or not self._has_reader(number):
            raise InvalidOperation("the letter goes neither to this cache nor to a reader that stands here")

    def _need_life(self, reading):
        if self.since is not None and reading < self.since:
            raise InvalidOperation("the reading is below that at which this life began")

    def _twin(self):
        """An equal cache. What this class changes is always such a new one, ahead of its being returned."""
        twin = Cache(self.setup, self.number, since=self.since, without=self.without)
        twin.shelf = self.shelf
        twin.book = self.book
        twin.turns = self.turns
        twin.asked = self.asked
        twin.fence = self.fence
        twin.owed = self.owed
        twin.wants = self.wants
        twin.reads = self.reads
        return twin

    def _next(self):
        """An equal cache at its next event."""
        after = self._twin()
        after.turns += 1
        return after

    def _finished(self, letters, reading):
        """This cache behind what follows in each event, with all letters of the event and the answers."""
        going = letters + self._grants(reading)
        answers = self._answers(reading)
        going = going + self._asks(reading)
        going = going + self._backs(reading)
        return (self, tuple(going), tuple(answers))

    def _taken(self, letter, reading):
        """Takes a letter; returns those that go at once."""
        word, early = letter[:2]
        if word == "ask" and early in self.children:
            return self._take_ask(early, letter[3], letter[4], reading)
        if word == "grant" and early == self.parent:
            self._take_grant(letter[3:], reading)
        if word == "recall" and early == self.parent:
            return self._take_recall(letter[3], reading)
        if word == "back" and early in self.children:
            self.book = self.book.backed(early, letter[3], letter[4])
        return []

    def _take_ask(self, child, key, asked, reading):
        if self._can_lend(key, reading):
            return [self._lend(child, key, asked, reading)]
        self.wants = _placed(self.wants, (child, key, asked), 2)
        return []

    def _take_grant(self, told, reading):
        key, value, asked, length = told
        self.asked = {other: self.asked[other] for other in self.asked if other != key}
        if asked > reading or self._is_from_before(key, asked):
            return
        start, units, spread = self._lease(asked, length, reading)
        self.shelf = self.shelf.granted(key, value, start, units, (reading, self.turns), spread)

    def _is_from_before(self, key, asked):
        """Whether an ask was made up to the rise, or up to the giving back of its key."""
        if self.since is not None and asked <= self.since and self.without != "since":
            return True
        return key in self.fence and asked <= self.fence[key] and self.without != "fence"

    def _lease(self, asked, length, reading):
        """The reading of the ask, the length and the spread, by which a grant is held."""
        spread = self.setup.spread
        if self.without == "spread":
            return (asked, length, 1)
        if self.without == "stamp":
            return (reading, length, spread)
        if self.without == "late" and reading > asked + held_for(spread, length):
            return (reading, 0, spread)
        return (asked, length, spread)

    def _take_recall(self, key, reading):
        if key not in self.owed:
            self.owed = tuple(sorted(self.owed + (key,)))
        return [("recall", self.number, child, key) for child in self.book.holders(key, reading)]

    def _is_true(self, key, reading):
        copy = self.shelf.kept(key)
        return copy is not None and copy.is_true(reading)

    def _can_lend(self, key, reading):
        return key not in self.owed and self._is_true(key, reading)

    def _lend(self, child, key, asked, reading):
        """Writes a grant of a key that is true into the book, and returns its letter."""
        copy = self.shelf.kept(key)
        length = self.setup.term
        if self.without != "within":
            length = min(length, copy.last - reading)
        self.book = self.book.granted(child, key, asked, reading + length)
        return ("grant", self.number, child, key, copy.value, asked, length)

    def _grants(self, reading):
        """Grants the wants whose keys can be lent; returns the letters."""
        can = [self._can_lend(key, reading) for _, key, _ in self.wants]
        due = [want for want, does_go in zip(self.wants, can) if does_go]
        self.wants = tuple([want for want, does_go in zip(self.wants, can) if not does_go])
        return [self._lend(child, key, asked, reading) for child, key, asked in due]

    def _answers(self, reading):
        """Takes the reads away that can be answered; returns the answers."""
        found = [(read, self._answer(read, (reading, self.turns))) for read in self.reads]
        self.reads = tuple([read for read, answer in found if answer is None])
        return [answer for _, answer in found if answer is not None]

    def _answer(self, read, now):
        """The answer of a read, None if its copies have no stretch."""
        reader, number, question, age, floor = read
        copies = tuple([self.shelf.kept(key) for key in keys_of(question)])
        if not all([copy is not None for copy in copies]):
            return None
        told = self._told_stretch(copies, now, age, floor)
        if told is None:
            return None
        page = {copy.key: copy.value for copy in copies}
        return (reader, number, answer_of_page(question, page), told[0], told[1])

    def _told_stretch(self, copies, now, age, floor):
        if self.without != "common":
            return answer_stretch(copies, now, age, floor)
        alone = [answer_stretch((copy,), now, age, floor) for copy in copies]
        return (now, now) if all([found is not None for found in alone]) else None

    def _asks(self, reading):
        """Opens an ask for each key that is wanted and can be asked for; returns the letters."""
        keys = {key: True for _, key, _ in self.wants}
        for _, _, question, _, _ in self.reads:
            for key in keys_of(question):
                keys[key] = True
        due = [key for key in sorted(keys) if self._does_ask(key, reading)]
        self.asked = ascending({**self.asked, **{key: reading for key in due}})
        return [("ask", self.number, self.parent, key, reading) for key in due]

    def _does_ask(self, key, reading):
        if key in self.owed or self._is_true(key, reading):
            return False
        if self.since is not None and reading <= self.since:
            return False
        if key in self.fence and reading <= self.fence[key]:
            return False
        return key not in self.asked or reading - self.asked[key] >= self.setup.patience

    def _backs(self, reading):
        """Gives back each owed key that is free, each one at an event of its own; returns the letters."""
        due = [key for key in self.owed if self._does_give_back(key, reading)]
        for key in due:
            self.turns += 1
            self.shelf = self.shelf.ended(key, (reading, self.turns))
        self.fence = ascending({**self.fence, **{key: reading for key in due}})
        self.owed = tuple([key for key in self.owed if key not in due])
        return [("back", self.number, self.parent, key, reading) for key in due]

    def _does_give_back(self, key, reading):
        if self.without != "below" and self.book.holders(key, reading):
            return False
        if self.without == "wait" or self.since is None or not self.children:
            return True
        return reading > self.since + self.setup.term


def need_rule(without):
    """Refuses all but None and the words of rules."""
    if without is not None and not _is_rule(without):
        raise InvalidOperation("what is left out is None or one of the words of the rules")


def _is_rule(value):
    return isinstance(value, str) and value in RULES


def _placed(rows, row, width):
    """The rows with one more: in the place of an elder one that begins alike, else behind the others."""
    heads = [elder[:width] for elder in rows]
    if row[:width] not in heads:
        return rows + (row,)
    at = heads.index(row[:width])
    return rows[:at] + (row,) + rows[at + 1:]
