"""Copies of what was lent, and the shelf on which a cache keeps them."""

from wholemoment.base.wholes import is_within, need_number
from wholemoment.errors import InvalidCopy, InvalidInstant, InvalidOperation, InvalidValue
from wholemoment.store.deeds import are_ascending, is_key, is_value_or_none, need_key
from wholemoment.time.clocks import held_for, need_spread


class Copy:
    """What a cache keeps of a grant. It never changes."""

    def __init__(self, key, value, begin, last, gone=None):
        need_key(key)
        _need_value_or_none(value)
        need_instant(begin)
        need_number(last, begin[0])
        if gone is not None:
            need_instant(gone)
            _need_end_behind(begin, gone)
        self.key = key
        self.value = value
        self.begin = begin
        self.last = last
        self.gone = gone

    def __eq__(self, other):
        return (isinstance(other, Copy) and self.key == other.key and self.value == other.value
                and self.begin == other.begin and self.last == other.last and self.gone == other.gone)

    def __str__(self):
        if self.gone is None:
            return f"{self.key} = {self.value} from {self.begin[0]} to {self.last}"
        return f"{self.key} = {self.value} from {self.begin[0]} to {self.last}, gone at {self.gone[0]}"

    def is_true(self, reading):
        """Whether the copy is true at a reading."""
        need_number(reading)
        return self.gone is None and self.begin[0] <= reading <= self.last

    def does_cover(self, instant):
        """Whether the copy covers an instant."""
        need_instant(instant)
        reading, count = instant
        if not self.begin[0] <= reading <= self.last or count < self.begin[1]:
            return False
        return self.gone is None or (reading <= self.gone[0] and count < self.gone[1])

    def ended(self, instant):
        """The copy that is gone at an instant."""
        need_instant(instant)
        if self.gone is not None:
            raise InvalidOperation("the copy is gone already")
        _need_end_behind(self.begin, instant)
        return _copy_of(self.key, self.value, self.begin, self.last, instant)


class Shelf:
    """At most one copy for each key. It never changes."""

    def __init__(self, copies=()):
        if not are_copies(copies) or not are_ascending([copy.key for copy in copies]):
            raise InvalidCopy("a shelf takes a tuple of copies with ascending keys")
        self.copies = copies

    def __len__(self):
        return len(self.copies)

    def __contains__(self, key):
        return is_key(key) and any([copy.key == key for copy in self.copies])

    def __eq__(self, other):
        return isinstance(other, Shelf) and self.copies == other.copies

    def kept(self, key):
        """The copy of a key, None if there is none."""
        need_key(key)
        for copy in self.copies:
            if copy.key == key:
                return copy
        return None

    def true_keys(self, reading):
        """The ascending tuple of the keys whose copies are true at a reading."""
        need_number(reading)
        return tuple([copy.key for copy in self.copies if copy.is_true(reading)])

    def granted(self, key, value, asked, length, instant, spread):
        """The shelf behind a grant of a key that comes at an instant."""
        need_key(key)
        _need_value_or_none(value)
        need_number(asked)
        need_number(length)
        need_instant(instant)
        need_spread(spread)
        elder = self.kept(key)
        _need_grant_behind(asked, elder, instant)
        reading = instant[0]
        last = asked + held_for(spread, length)
        if reading > last:
            return self
        if elder is not None and elder.is_true(reading) and elder.value == value:
            return self._with_copy(_copy_of(key, value, elder.begin, max(elder.last, last), None))
        return self._with_copy(_copy_of(key, value, instant, last, None))

    def ended(self, key, instant):
        """The shelf in which the copy of a key is gone at an instant."""
        need_key(key)
        need_instant(instant)
        copy = self.kept(key)
        if copy is None or copy.gone is not None:
            return self
        return self._with_copy(copy.ended(instant))

    def _with_copy(self, copy):
        """The shelf with a copy in the place of the elder one of its key."""
        ahead = [other for other in self.copies if other.key < copy.key]
        behind = [other for other in self.copies if other.key > copy.key]
        return Shelf(tuple(ahead + [copy] + behind))


def is_instant(value):
    """Whether the value is a pair of two integers from 0 on."""
    if not isinstance(value, tuple) or len(value) != 2:
        return False
    return is_within(value[0], 0) and is_within(value[1], 0)


def are_copies(value):
    """Whether the value is a tuple of copies."""
    return isinstance(value, tuple) and all([isinstance(copy, Copy) for copy in value])


def need_instant(instant):
    """Refuses all but instants."""
    if not is_instant(instant):
        raise InvalidInstant("an instant is a pair of a reading and a count, both from 0 on")


def _need_value_or_none(value):
    if not is_value_or_none(value):
        raise InvalidValue("a copy has a value, or None for a key that has none")


def _need_end_behind(begin, gone):
    if gone[0] < begin[0] or gone[1] <= begin[1]:
        raise InvalidCopy("a copy ends at no lesser reading than it begins, and at a greater count")


def _need_grant_behind(asked, elder, instant):
    if asked > instant[0]:
        raise InvalidOperation("a grant comes ahead of its ask")
    if elder is None:
        return
    for early in (elder.begin, elder.gone):
        if early is not None and (early[0] > instant[0] or early[1] >= instant[1]):
            raise InvalidOperation("a grant comes ahead of what its copy knows")


def _copy_of(key, value, begin, last, gone):
    """A copy of parts that fit; its last can be longer than the sixty digits that a caller may tell."""
    copy = Copy(key, value, begin, begin[0])
    copy.last = last
    copy.gone = gone
    return copy
