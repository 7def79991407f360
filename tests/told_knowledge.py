"""What a cache of a run knows, told as views [7.1] from the events of the run: so [0.16] can be asked of whole runs."""


class ToldKnowledge:
    """The events of one cache in its first life, and the leases of its copies; it changes."""

    def __init__(self, number):
        self.number, self.readings, self.asks, self.leases, self.is_whole = number, [0], {}, {}, True

    def take(self, early, late):
        """What the cache learns in an event that leads from one system to the next; None if it had no event."""
        if early.caches[self.number] is None or late.caches[self.number] is None or not self.is_whole:
            self.is_whole = False
            return None
        before, after = early.caches[self.number], late.caches[self.number]
        if before.turns == after.turns:
            return None
        now = before.turns + 1
        self.readings += [late.clocks[self.number]] * (after.turns - before.turns)
        event = late.events[-1]
        if event[0] == "hand" and early.bag.letter(event[1])[:3] == ("grant", after.parent, self.number):
            self.take_grant(early.bag.letter(event[1]), before, after, now)
        for letter in late.bag.letters[len(early.bag):]:
            if letter[:2] == ("ask", self.number):
                self.asks[(letter[3], letter[4])] = now
        return now

    def take_grant(self, letter, before, after, now):
        _, _, _, key, _, asked, length = letter
        old, new = before.shelf.kept(key), after.shelf.kept(key)
        if new is None or new.begin == (old.begin if old is not None else None) and new.last == old.last:
            return
        lease = (self.asks[(key, asked)], now, length)
        if new.begin[1] == now:
            self.leases[key] = [lease]
        else:
            self.leases[key].append(lease)

    def view(self, cache, spread, keys, now, age, floor):
        """The view at the event with the count now, None if the bounds of views do not let it."""
        copies = []
        for key in keys:
            copy = cache.shelf.kept(key)
            gone = copy.gone[1] if copy.gone is not None and copy.gone[1] <= now else None
            copies.append((key, copy.value, tuple(self.leases[key]), gone))
        if now > 39 or len(copies) > 6 or any(len(leases) > 4 for _, _, leases, _ in copies):
            return None
        return (spread, tuple(self.readings[:now + 1]), tuple(copies), age, floor[1])
