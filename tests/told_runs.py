"""Whole runs, told anew for the tests: machines of the program, letters in a bag, and a foe that chooses."""

from wholemoment.disk.disk import Disk
from wholemoment.disk.log import Kept, read_log
from wholemoment.lend.cache import Cache
from wholemoment.lend.origin import Origin
from wholemoment.store.questions import plain_answer


class ToldRun:
    """All machines of a run; it changes. Each event is a method; what cannot be done does nothing."""

    def __init__(self, setup, without=None):
        self.setup, self.without = setup, without
        self.clocks = [0] * setup.machines
        self.origin, self.disk = Origin(setup, without=without), Disk()
        self.caches = {number: Cache(setup, number, without=without) for number in range(1, setup.machines)}
        self.lives = {number: 0 for number in self.caches}
        self.bag, self.answers = [], []
        readers = range(len(setup.readers))
        self.floors = [(0, 0) for _ in readers]
        self.read_numbers, self.write_numbers = [0 for _ in readers], [0 for _ in readers]
        self.reading, self.writing = [None for _ in readers], [None for _ in readers]
        self.log, self.deeds = Kept(), ()
        # For each time the pairs of the store, and what each cache shows: (life, instants).
        self.times, self.counts = [], {number: 0 for number in self.caches}
        self.note()

    def note(self):
        """What is so behind an event."""
        if self.origin is not None:
            self.disk = self.origin.disk
        records = read_log(self.disk.sure).records
        if records != self.log.records:
            self.log = read_log(self.disk.sure)
        shown = {}
        for number, cache in self.caches.items():
            if cache is not None:
                first = min(self.counts[number] + 1, cache.turns)
                shown[number] = (self.lives[number], [(self.clocks[number], k) for k in range(first, cache.turns + 1)])
                self.counts[number] = cache.turns
        self.times.append((self.log.pairs, shown, len(self.log)))

    def beat(self, advances):
        for number, (life, instants) in self.times[-1][1].items():
            count = self.caches[number].turns
            instants += [(self.clocks[number] + step, count) for step in range(1, advances[number])]
        self.clocks = [clock + step for clock, step in zip(self.clocks, advances)]
        self.note()

    def look(self, machine):
        if machine == 0 and self.origin is not None:
            self.keep(self.origin.looked(self.clocks[0]))
        elif machine > 0 and self.caches[machine] is not None:
            self.take(machine, self.caches[machine].looked(self.clocks[machine]))
        self.note()

    def keep(self, origin):
        self.origin, letters = origin.sent()
        self.bag += letters

    def take(self, machine, outcome):
        self.caches[machine], letters, answers = outcome
        self.bag += letters
        for reader, number, value, low, high in answers:
            if self.reading[reader] is not None and self.reading[reader][0] == number:
                _, question, age = self.reading[reader]
                now = (self.clocks[machine], self.caches[machine].turns)
                self.answers.append((len(self.times), reader, machine, self.lives[machine], question, age, value, low, high, now))
                self.reading[reader] = None
                self.join(reader, low)

    def join(self, reader, instant):
        floor = self.floors[reader]
        self.floors[reader] = (max(floor[0], instant[0]), max(floor[1], instant[1]))

    def hand(self, number):
        letter = self.bag[number]
        if letter[0] == "done":
            self.tell(letter)
        elif letter[0] == "deed" or letter[2] == 0:
            if self.origin is not None:
                self.keep(self.origin.heard(letter, self.clocks[0]))
        elif self.caches[letter[2]] is not None:
            self.take(letter[2], self.caches[letter[2]].heard(letter, self.clocks[letter[2]]))
        self.note()

    def tell(self, letter):
        _, reader, number = letter
        place = self.setup.readers[reader]
        if self.caches[place] is None:
            return
        instant = (self.clocks[place], self.caches[place].turns + 1)
        self.take(place, self.caches[place].heard(letter, self.clocks[place]))
        if self.writing[reader] is not None and self.writing[reader][0] == number:
            self.writing[reader] = None
            self.join(reader, instant)

    def sync(self):
        if self.origin is not None:
            self.origin, letters = self.origin.synced()
            self.bag += letters
        self.note()

    def fall(self, machine, kept):
        if machine == 0 and self.origin is not None:
            self.origin, self.disk = None, self.origin.fallen(kept)
        elif machine > 0 and self.caches[machine] is not None:
            self.caches[machine] = None
            for reader, place in enumerate(self.setup.readers):
                if place == machine:
                    self.reading[reader] = None
                    self.floors[reader] = (self.floors[reader][0], 0)
        self.note()

    def rise(self, machine):
        reading = self.clocks[machine]
        if machine == 0 and self.origin is None:
            self.origin = Origin.risen(self.setup, self.disk, reading, without=self.without)
        elif machine > 0 and self.caches[machine] is None:
            self.caches[machine] = Cache(self.setup, machine, since=reading, without=self.without)
            self.lives[machine] += 1
            self.counts[machine] = 0
        self.note()

    def read(self, reader, question, age):
        place = self.setup.readers[reader]
        if self.caches[place] is not None and self.reading[reader] is None:
            self.read_numbers[reader] += 1
            self.reading[reader] = (self.read_numbers[reader], question, age)
            told = (reader, self.read_numbers[reader], question, age, self.floors[reader], self.clocks[place])
            self.take(place, self.caches[place].read(*told))
        self.note()

    def write(self, reader, deed):
        if self.writing[reader] is None:
            self.write_numbers[reader] += 1
            self.writing[reader] = (self.write_numbers[reader], deed)
            self.bag.append(("deed", reader) + self.writing[reader])
        self.note()

    def again(self, reader):
        if self.writing[reader] is not None:
            self.bag.append(("deed", reader) + self.writing[reader])
        self.note()

    def drop(self, reader):
        place = self.setup.readers[reader]
        if self.reading[reader] is not None:
            self.reading[reader] = None
            self.caches[place] = self.caches[place].forgotten(reader)
        self.note()

    def not_lent(self):
        """[0.17]: the copies that are held as true, though no machine above keeps their keys."""
        found = []
        for number, cache in self.caches.items():
            for key in cache.shelf.true_keys(self.clocks[number]) if cache is not None else ():
                if not self.is_lent(cache.parent, number, key):
                    found.append((number, key))
        return found

    def is_lent(self, parent, child, key):
        lender = self.caches[parent] if parent else self.origin
        if lender is None:
            return True
        entry = lender.book.lent.get((child, key))
        if entry is not None and entry[1] >= self.clocks[parent]:
            return True
        if parent == 0:
            return lender.free_from is not None and self.clocks[0] <= lender.free_from
        return lender.since is not None and self.clocks[parent] <= lender.since + self.setup.term

    def wrong_answers(self):
        """[0.15]: the answers whose page did not stand at an instant that they tell, or that tell none, or too old ones."""
        found = []
        for answer in self.answers:
            event, _, machine, life, question, age, value, low, high, now = answer
            values = []
            for pairs, shown, _ in self.times:
                told, instants = shown.get(machine, (None, ()))
                if told == life and any(low[0] <= x <= high[0] and low[1] <= k <= high[1] for x, k in instants):
                    values.append(plain_answer(question, pairs))
            late = high[0] > now[0] or high[1] > now[1] or low[0] < now[0] - age
            if late or not values or any(told != value for told in values):
                found.append(answer)
        return found

    def wrong_copies(self):
        """The copies that cover an instant at which their value did not stand in the store."""
        found = []
        for number, cache in self.caches.items():
            for copy in cache.shelf.copies if cache is not None else ():
                for pairs, shown, _ in self.times:
                    told, instants = shown.get(number, (None, ()))
                    covered = told == self.lives[number] and any(copy.does_cover(instant) for instant in instants)
                    if covered and pairs.get(copy.key) != copy.value:
                        found.append((number, copy.key))
                        break
        return found


def some_event(rng, run, keys="ab"):
    """Does an event that the foe draws."""
    setup, act = run.setup, rng.random()
    machine = rng.randrange(setup.machines)
    reader = rng.randrange(len(setup.readers))
    if act < 0.2:
        run.beat([rng.randrange(1, setup.spread + 1) for _ in range(setup.machines)])
    elif act < 0.28:
        run.look(machine)
    elif act < 0.7 and run.bag:
        last = len(run.bag) - 1
        run.hand(max(0, last - rng.choice((0, 0, 0, 1, 1, 2, 3, 5, 8, rng.randrange(last + 1)))))
    elif act < 0.8:
        run.sync()
    elif act < 0.815:
        run.fall(machine, tuple(rng.choice((0, 5, 1000)) for _ in range(3)) if machine == 0 else ())
    elif act < 0.86:
        down = [number for number, cache in run.caches.items() if cache is None] + ([0] if run.origin is None else [])
        run.rise(rng.choice(down) if down else machine)
    elif act < 0.94:
        names = sorted(rng.sample(keys, rng.randrange(1, len(keys) + 1)))
        run.read(reader, ("sum", tuple(names)) if rng.random() < 0.7 else ("there", names[0]), rng.choice((0, 0, 3, 8)))
    elif act < 0.97:
        key = rng.choice(keys)
        run.write(reader, ((key, rng.choice((None, len(run.times)))),))
    else:
        run.again(reader) if rng.random() < 0.8 else run.drop(reader)
