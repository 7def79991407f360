"""Machines, told anew for the tests: a cache and an origin that change, step by step as the document tells."""

from wholemoment.disk.disk import Disk
from wholemoment.disk.log import block_of, record_in
from wholemoment.store.questions import answer_of_page, keys_of


class ToldCache:
    """The parts of a cache [13.1]; copies are lists [value, begin, last, gone]."""

    def __init__(self, setup, number, since=None, without=None):
        self.setup, self.number, self.since, self.without = setup, number, since, without
        self.parent = setup.parents[number - 1]
        self.children = [index + 1 for index, parent in enumerate(setup.parents) if parent == number]
        self.copies, self.book, self.count = {}, {}, 0
        self.asked, self.fence, self.owed, self.wants, self.reads = {}, {}, set(), [], []

    def parts(self):
        copies = tuple((key, *self.copies[key]) for key in sorted(self.copies))
        return (copies, sorted(self.book.items()), self.count, sorted(self.asked.items()), sorted(self.fence.items()),
                tuple(sorted(self.owed)), tuple(self.wants), tuple(self.reads))

    def holders(self, key, reading):
        return sorted(child for (child, told), (_, end) in self.book.items() if told == key and end >= reading)

    def is_true(self, key, reading):
        if key not in self.copies:
            return False
        _, begin, last, gone = self.copies[key]
        return gone is None and begin[0] <= reading <= last

    def event(self, reading, letter=None, read=None):
        """The letters and the answers of an event."""
        self.count += 1
        out, told = [], []
        if letter is not None:
            self.take(letter, reading, out)
        if read is not None:
            self.place(self.reads, read, lambda row: row[0] == read[0])
        for want in list(self.wants):
            if self.is_true(want[1], reading) and want[1] not in self.owed:
                self.wants.remove(want)
                self.grant(want, reading, out)
        for waits in list(self.reads):
            found = self.answer(waits, reading)
            if found is not None:
                self.reads.remove(waits)
                told.append(found)
        self.ask(reading, out)
        self.give_back(reading, out)
        return tuple(out), tuple(told)

    def place(self, rows, row, is_elder):
        for index, elder in enumerate(rows):
            if is_elder(elder):
                rows[index] = row
                return
        rows.append(row)

    def take(self, letter, reading, out):
        word, early = letter[:2]
        if word == "ask" and early in self.children:
            want = (early, letter[3], letter[4])
            if self.is_true(letter[3], reading) and letter[3] not in self.owed:
                self.grant(want, reading, out)
            else:
                self.place(self.wants, want, lambda row: row[:2] == want[:2])
        if word == "grant" and early == self.parent:
            self.take_grant(*letter[3:], reading)
        if word == "recall" and early == self.parent:
            self.owed.add(letter[3])
            out += [("recall", self.number, child, letter[3]) for child in self.holders(letter[3], reading)]
        if word == "back" and early in self.children:
            place = (early, letter[3])
            if place in self.book and self.book[place][0] <= letter[4]:
                del self.book[place]

    def take_grant(self, key, value, asked, length, reading):
        self.asked.pop(key, None)
        if asked > reading:
            return
        if self.since is not None and asked <= self.since and self.without != "since":
            return
        if key in self.fence and asked <= self.fence[key] and self.without != "fence":
            return
        last = asked + length // self.setup.spread
        if self.without == "spread":
            last = asked + length
        if self.without == "stamp":
            last = reading + length // self.setup.spread
        if reading > last:
            if self.without != "late":
                return
            last = reading
        if self.is_true(key, reading) and self.copies[key][0] == value:
            self.copies[key][2] = max(self.copies[key][2], last)
        else:
            self.copies[key] = [value, (reading, self.count), last, None]

    def grant(self, want, reading, out):
        child, key, asked = want
        value, _, last, _ = self.copies[key]
        length = self.setup.term if self.without == "within" else min(self.setup.term, last - reading)
        elder = self.book.get((child, key), (0, 0))
        self.book[(child, key)] = (max(asked, elder[0]), max(reading + length, elder[1]))
        out.append(("grant", self.number, child, key, value, asked, length))

    def answer(self, read, reading):
        reader, number, question, age, floor = read
        keys = keys_of(question)
        if any(key not in self.copies for key in keys):
            return None
        copies = [self.copies[key] for key in keys]
        value = answer_of_page(question, {key: self.copies[key][0] for key in keys})
        if self.without == "common":
            if any(self.stretch([copy], reading, age, floor) is None for copy in copies):
                return None
            return (reader, number, value, (reading, self.count), (reading, self.count))
        found = self.stretch(copies, reading, age, floor)
        return None if found is None else (reader, number, value) + found

    def stretch(self, copies, reading, age, floor):
        low = [max([reading - age, floor[0], 0] + [copy[1][0] for copy in copies]),
               max([floor[1]] + [copy[1][1] for copy in copies])]
        high = [reading, self.count]
        for _, _, last, gone in copies:
            high[0] = min(high[0], last)
            if gone is not None:
                high = [min(high[0], gone[0]), min(high[1], gone[1] - 1)]
        return (tuple(low), tuple(high)) if low[0] <= high[0] and low[1] <= high[1] else None

    def ask(self, reading, out):
        keys = {key for _, key, _ in self.wants} | {key for read in self.reads for key in keys_of(read[2])}
        for key in sorted(keys):
            if self.is_true(key, reading) or key in self.owed or (self.since is not None and reading <= self.since):
                continue
            if key in self.fence and reading <= self.fence[key]:
                continue
            if key not in self.asked or reading >= self.asked[key] + self.setup.patience:
                self.asked[key] = reading
                out.append(("ask", self.number, self.parent, key, reading))

    def give_back(self, reading, out):
        for key in sorted(self.owed):
            if self.holders(key, reading) and self.without != "below":
                continue
            waits = self.since is not None and self.children and reading <= self.since + self.setup.term
            if waits and self.without != "wait":
                continue
            self.count += 1
            if key in self.copies and self.copies[key][3] is None:
                self.copies[key][3] = (reading, self.count)
            self.fence[key] = reading
            self.owed.discard(key)
            out.append(("back", self.number, self.parent, key, reading))


class ToldOrigin:
    """The parts of the origin [12.1]; blocks are two lists, those that are sure and those that wait."""

    def __init__(self, setup, sure=(), rises=False, without=None):
        self.setup, self.without = setup, without
        self.children = [index + 1 for index, parent in enumerate(setup.parents) if parent == 0]
        self.pairs, self.numbers, self.queue, self.book = {}, {}, [], {}
        self.sure, self.waiting, self.held, self.ceiling = list(sure), [], [], -1
        for block in sure:
            self.read(record_in(block))
        self.free_from = self.ceiling if rises and without != "ceiling" else None

    def read(self, record):
        if record is None:
            return
        if record[0] == "lend":
            self.ceiling = max(self.ceiling, record[1])
        elif record[2] > self.numbers.get(record[1], 0):
            self.put_on_pairs(record)

    def put_on_pairs(self, record):
        self.numbers[record[1]] = record[2]
        for key, value in record[3]:
            self.pairs[key] = value
            if value is None:
                del self.pairs[key]

    def parts(self):
        return (sorted(self.pairs.items()), sorted(self.numbers.items()), tuple(self.queue), sorted(self.book.items()),
                Disk(tuple(self.sure), tuple(self.waiting)), tuple(self.held), self.ceiling, self.free_from, self.closed())

    def closed(self):
        return tuple(key for key, _ in self.queue[0][2]) if self.queue else ()

    def holders(self, key, reading):
        return sorted(child for (child, told), (_, end) in self.book.items() if told == key and end >= reading)

    def event(self, reading, letter=None):
        front = self.queue[:1]
        if letter is not None:
            self.take(letter, reading)
        while self.queue and self.is_free(reading):
            record = ("deed",) + self.queue.pop(0)
            self.waiting.append(block_of(record))
            self.put_on_pairs(record)
            self.held.append(("done",) + record[1:3])
        if self.queue and (letter is None or self.queue[:1] != front):
            for key in self.closed():
                self.held += [("recall", 0, child, key) for child in self.holders(key, reading)]

    def is_free(self, reading):
        if self.free_from is not None and reading <= self.free_from:
            return False
        return not any(self.holders(key, reading) for key in self.closed())

    def take(self, letter, reading):
        if letter[0] == "ask":
            _, child, _, key, asked = letter
            if key not in self.closed():
                end = reading + self.setup.term
                if end > self.ceiling:
                    self.ceiling = end + self.setup.span
                    self.waiting.append(block_of(("lend", self.ceiling)))
                elder = self.book.get((child, key), (0, 0))
                self.book[(child, key)] = (max(elder[0], asked), max(elder[1], end))
                self.held.append(("grant", 0, child, key, self.pairs.get(key), asked, self.setup.term))
        elif letter[0] == "back":
            place = (letter[1], letter[3])
            if place in self.book and self.book[place][0] <= letter[4]:
                del self.book[place]
        else:
            _, reader, number, deed = letter
            if number <= self.numbers.get(reader, 0):
                self.held.append(("done", reader, number))
            elif all(number > early for other, early, _ in self.queue if other == reader):
                self.queue.append((reader, number, deed))

    def sync(self):
        self.sure, self.waiting = self.sure + self.waiting, []
        told, self.held = tuple(self.held), []
        return told


def cache_parts(cache):
    """The parts of a cache of the program, in the form of those told above."""
    copies = tuple((copy.key, copy.value, copy.begin, copy.last, copy.gone) for copy in cache.shelf.copies)
    return (copies, list(cache.book.lent.items()), cache.turns, list(cache.asked.items()), list(cache.fence.items()),
            cache.owed, cache.wants, cache.reads)


def origin_parts(origin):
    """Those of an origin of the program."""
    return (list(origin.pairs.items()), list(origin.numbers.items()), origin.queue, list(origin.book.lent.items()),
            origin.disk, origin.held, origin.ceiling, origin.free_from, origin.closed)
