"""Systems: all machines of a run with their clocks, the disk, the bag and the readers, event by event."""

from wholemoment.base.wholes import is_within
from wholemoment.disk.disk import Disk
from wholemoment.disk.log import Kept
from wholemoment.errors import InvalidEvent, InvalidMachine, InvalidSystem, TooMany
from wholemoment.lend.cache import Cache, need_rule
from wholemoment.lend.origin import Origin
from wholemoment.lend.readers import Reader
from wholemoment.lend.setups import need_setup
from wholemoment.net.letters import Bag, goal
from wholemoment.run.events import is_event_among

MAX_EVENTS = 1500


class System:
    """All machines of a run behind some events. It never changes."""

    def __init__(self, setup, *, without=None):
        need_setup(setup)
        need_rule(without)
        self.setup = setup
        self.without = without
        self.clocks = tuple([0 for _ in range(setup.machines)])
        self.origin = Origin(setup, without=without)
        self.caches = {number: Cache(setup, number, without=without) for number in range(1, setup.machines)}
        self.disk = Disk()
        self.bag = Bag()
        self.readers = tuple([Reader(number, place) for number, place in enumerate(setup.readers)])
        self.deeds = ()
        self.answers = ()
        self.events = ()
        self.moments = (0,)
        # What is read of the sure blocks; the life of each cache; and for each time a row of its instants.
        self._log = Kept()
        self._lives = {number: 0 for number in self.caches}
        self._shown = (self._instants_now(),)

    def __len__(self):
        return len(self.events)

    def __eq__(self, other):
        return (isinstance(other, System) and self.events == other.events and self.setup == other.setup
                and self.without == other.without and self.clocks == other.clocks and self.origin == other.origin
                and self.caches == other.caches and self.disk == other.disk and self.bag == other.bag
                and self.readers == other.readers and self.deeds == other.deeds and self.answers == other.answers)

    def __str__(self):
        return f"system of {self.setup.machines} machines, {len(self.events)} events, {len(self.bag)} letters"

    def instants(self, cache):
        """For the beginning and each event (life, reading, count) of a cache behind it, None if it is down."""
        if not is_within(cache, 1, self.setup.caches):
            raise InvalidMachine("only a cache of the setup has instants")
        return tuple([row[cache - 1] for row in self._shown])

    def done(self, event):
        """The system behind an event."""
        return self.run((event,))

    def run(self, events):
        """The system behind some events, one behind the other."""
        if not isinstance(events, tuple):
            raise InvalidEvent("events are a tuple of events")
        after = self._twin()
        for event in events:
            after._step(event)
        return after

    def _twin(self):
        """An equal system. What this class changes is always such a new one, ahead of its being returned."""
        twin = System(self.setup, without=self.without)
        twin.clocks = self.clocks
        twin.origin = self.origin
        twin.caches = {number: self.caches[number] for number in self.caches}
        twin.disk = self.disk
        twin.bag = self.bag
        twin.readers = self.readers
        twin.deeds = self.deeds
        twin.answers = self.answers
        twin.events = self.events
        twin.moments = self.moments
        twin._log = self._log
        twin._lives = {number: self._lives[number] for number in self._lives}
        twin._shown = self._shown
        return twin

    def _instants_now(self):
        """For each cache (life, reading, count), None if it is down."""
        row = []
        for number, cache in self.caches.items():
            told = None if cache is None else (self._lives[number], self.clocks[number], cache.turns)
            row.append(told)
        return tuple(row)

    def _step(self, event):
        """Becomes the system behind an event."""
        if not is_event(self.setup, event) or (event[0] == "hand" and event[1] >= len(self.bag)):
            raise InvalidEvent("no event of the setup, or its letter is not there")
        if len(self.events) >= MAX_EVENTS:
            raise TooMany(MAX_EVENTS)
        self.events = self.events + (event,)
        self._do(event)
        self.moments = self.moments + (len(self.deeds),)
        self._shown = self._shown + (self._instants_now(),)

    def _do(self, event):
        word = event[0]
        if word == "beat":
            self.clocks = tuple([clock + units for clock, units in zip(self.clocks, event[1])])
        elif word == "look":
            self._look(event[1])
        elif word == "hand":
            self._hand(self.bag.letter(event[1]))
        elif word == "sync":
            self._sync()
        elif word == "fall":
            self._fall(event[1], event[2])
        elif word == "rise":
            self._rise(event[1])
        elif word == "read":
            self._read(event[1], event[2], event[3])
        elif word == "drop":
            self._drop(event[1])
        else:
            self._send(event)

    def _look(self, machine):
        if machine == 0 and self.origin is not None:
            self._take_origin(self.origin.looked(self.clocks[0]))
        elif machine > 0 and self.caches[machine] is not None:
            self._take_cache(machine, self.caches[machine].looked(self.clocks[machine]))

    def _hand(self, letter):
        kind, number = goal(letter)
        if kind == "reader":
            self._hand_done(number, letter)
        elif number == 0 and self.origin is not None:
            self._take_origin(self.origin.heard(letter, self.clocks[0]))
        elif number > 0 and self.caches[number] is not None:
            self._take_cache(number, self.caches[number].heard(letter, self.clocks[number]))

    def _hand_done(self, number, letter):
        place = self.readers[number].place
        cache = self.caches[place]
        if cache is None:
            return
        # The event of the "done" itself, not those of givings back that follow it.
        instant = (self.clocks[place], cache.turns + 1)
        self._take_cache(place, cache.heard(letter, self.clocks[place]))
        self._set_reader(self.readers[number].heard_done(letter[2], instant))

    def _sync(self):
        if self.origin is not None:
            origin, letters = self.origin.synced()
            self._send_letters(letters)
            self.origin = origin
            self._set_disk(origin.disk)

    def _fall(self, machine, kept):
        if machine == 0 and self.origin is not None:
            self._set_disk(self.origin.fallen(kept))
            self.origin = None
        elif machine > 0 and self.caches[machine] is not None:
            self.caches[machine] = None
            self.readers = tuple([reader.fallen() if reader.place == machine else reader for reader in self.readers])

    def _rise(self, machine):
        reading = self.clocks[machine]
        if machine == 0 and self.origin is None:
            self.origin = Origin.risen(self.setup, self.disk, reading, without=self.without)
        elif machine > 0 and self.caches[machine] is None:
            self.caches[machine] = Cache(self.setup, machine, since=reading, without=self.without)
            self._lives[machine] += 1

    def _read(self, number, question, age):
        reader = self.readers[number]
        cache = self.caches[reader.place]
        if cache is None or reader.open_read is not None:
            return
        asks = reader.with_read(question, age)
        self._set_reader(asks)
        reading = self.clocks[reader.place]
        self._take_cache(reader.place, cache.read(number, asks.read_number, question, age, reader.floor, reading))

    def _drop(self, number):
        reader = self.readers[number]
        if reader.open_read is not None:
            self._set_reader(reader.dropped())
            self.caches[reader.place] = self.caches[reader.place].forgotten(number)

    def _send(self, event):
        """A write that no other one is ahead of, or the deed of the open write once more."""
        reader = self.readers[event[1]]
        if event[0] == "write" and reader.open_write is None:
            reader = reader.with_write(event[2])
            self._set_reader(reader)
            self._send_letters((reader.deed_letter(),))
        elif event[0] == "again" and reader.open_write is not None:
            self._send_letters((reader.deed_letter(),))

    def _take_origin(self, origin):
        """Takes the origin behind an event, with the letters that leave without a sync."""
        after, letters = origin.sent()
        self.origin = after
        self.disk = after.disk
        self._send_letters(letters)

    def _take_cache(self, number, outcome):
        """Takes a cache behind an event, with its letters and its answers."""
        cache, letters, answers = outcome
        self.caches[number] = cache
        self._send_letters(letters)
        for answer in answers:
            self._tell(number, answer)

    def _tell(self, place, answer):
        number, read_number, value, low, high = answer
        reader = self.readers[number]
        if reader.open_read is None or reader.open_read[0] != read_number:
            return
        _, question, age = reader.open_read
        told = (len(self.events), number, read_number, place, self._lives[place], question, age, value, low, high)
        self.answers = self.answers + (told,)
        self._set_reader(reader.answered(read_number, low))

    def _send_letters(self, letters):
        if letters:
            self.bag = self.bag.sent(letters)

    def _set_reader(self, reader):
        self.readers = self.readers[:reader.number] + (reader,) + self.readers[reader.number + 1:]

    def _set_disk(self, disk):
        """Takes a disk whose sure blocks begin with those of the one before, and reads on from there."""
        for block in disk.sure[len(self.disk.sure):]:
            self._log = self._log.behind(block)
        self.disk = disk
        self.deeds = self._log.deeds


def is_event(setup, value):
    """Whether the value is an event of the setup, whatever the number of its letter is."""
    need_setup(setup)
    return is_event_among(setup.spread, setup.machines, len(setup.readers), value)


def need_system(system):
    """Refuses all but systems."""
    if not isinstance(system, System):
        raise InvalidSystem("only an object of System is a system")
