"""Books: what a lender lent to its children."""

from wholemoment.base.tables import ascending
from wholemoment.base.wholes import is_within, need_number
from wholemoment.errors import InvalidBook, InvalidKey
from wholemoment.store.deeds import is_key, need_key

_MOST_CHILD = 6


class Book:
    """For some pairs (child, key) an entry (asked, end). It never changes."""

    def __init__(self, lent=None):
        if lent is not None and not _is_lent(lent):
            raise InvalidBook("a book takes a dict from pairs (child, key) to entries (asked, end)")
        self.lent = {} if lent is None else ascending(lent)

    def __len__(self):
        return len(self.lent)

    def __contains__(self, value):
        return _is_place(value) and value in self.lent

    def __eq__(self, other):
        return isinstance(other, Book) and self.lent == other.lent

    def granted(self, child, key, asked, end):
        """The book behind a grant."""
        _need_child(child)
        need_key(key)
        need_number(asked)
        need_number(end)
        elder = self.lent.get((child, key), (0, 0))
        lent = {place: self.lent[place] for place in self.lent}
        lent[(child, key)] = (max(elder[0], asked), max(elder[1], end))
        return _book_of(lent)

    def backed(self, child, key, stamp):
        """The book behind what a child gives back."""
        _need_child(child)
        need_key(key)
        need_number(stamp)
        if (child, key) not in self.lent or self.lent[(child, key)][0] > stamp:
            return self
        return _book_of({place: self.lent[place] for place in self.lent if place != (child, key)})

    def swept(self, reading):
        """The book without all entries that ended ahead of a reading."""
        need_number(reading)
        return _book_of({place: self.lent[place] for place in self.lent if self.lent[place][1] >= reading})

    def holders(self, key, reading):
        """The ascending tuple of the children that hold a key at a reading."""
        need_key(key)
        need_number(reading)
        return tuple([child for child, told in self.lent if told == key and self.lent[(child, told)][1] >= reading])

    def held_keys(self, reading):
        """The ascending tuple of all keys that have holders at a reading."""
        need_number(reading)
        return tuple(sorted({key for child, key in self.lent if self.lent[(child, key)][1] >= reading}))

    def when_free(self, keys):
        """The reading from which on none of the keys has holders."""
        if not isinstance(keys, tuple) or not all([is_key(key) for key in keys]):
            raise InvalidKey("keys are a tuple of keys")
        return max([self.lent[(child, key)][1] + 1 for child, key in self.lent if key in keys], default=0)


def _need_child(child):
    need_number(child, 1, _MOST_CHILD)


def _is_lent(value):
    if not isinstance(value, dict):
        return False
    return all([_is_place(place) and _is_entry(entry) for place, entry in value.items()])


def _is_place(value):
    if not isinstance(value, tuple) or len(value) != 2:
        return False
    return is_within(value[0], 1, _MOST_CHILD) and is_key(value[1])


def _is_entry(value):
    if not isinstance(value, tuple) or len(value) != 2:
        return False
    return is_within(value[0], 0) and is_within(value[1], 0)


def _book_of(lent):
    """A book of entries that were checked before."""
    book = Book()
    book.lent = ascending(lent)
    return book
