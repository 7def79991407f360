"""Keys, values, pairs, deeds, pages, and the history of deeds."""

from wholemoment.base.tables import ascending
from wholemoment.base.wholes import is_within, need_number
from wholemoment.errors import InvalidDeed, InvalidKey, InvalidValue, TooMany

MOST_KEY = 8
MOST_VALUE = 10 ** 12 - 1
MOST_SET = 6
MOST_KEYS = 10000
MOST_DEEDS = 1500
MOST_PAGE = 40

_LETTERS = "abcdefghijklmnopqrstuvwxyz"


def is_key(value):
    """Whether the value is a key."""
    if not isinstance(value, str) or not 1 <= len(value) <= MOST_KEY:
        return False
    return all([letter in _LETTERS for letter in value])


def is_value(value):
    """Whether the value is a value of the store."""
    return is_within(value, -MOST_VALUE, MOST_VALUE)


def is_value_or_none(value):
    """Whether the value is a value of the store, or None for a key that has none."""
    return value is None or is_value(value)


def is_pairs(value):
    """Whether the value is pairs."""
    if not isinstance(value, dict) or len(value) > MOST_KEYS:
        return False
    return all([is_key(key) and is_value(told) for key, told in value.items()])


def is_deed(value):
    """Whether the value is a deed."""
    if not isinstance(value, tuple) or not 1 <= len(value) <= MOST_SET:
        return False
    if not all([_is_setting(setting) for setting in value]):
        return False
    return are_ascending([key for key, _ in value])


def is_page(value):
    """Whether the value is a page."""
    if not isinstance(value, dict) or len(value) > MOST_PAGE:
        return False
    return all([is_key(key) and is_value_or_none(told) for key, told in value.items()])


def are_ascending(keys):
    """Whether each of some keys is above the one ahead of it."""
    return all([early < late for early, late in zip(keys, keys[1:])])


def need_key(key):
    """Refuses all but keys."""
    if not is_key(key):
        raise InvalidKey("a key is a string of 1 to 8 letters from a to z")


def need_pairs(pairs):
    """Refuses all but pairs."""
    if not is_pairs(pairs):
        raise InvalidValue("pairs are a dict of at most 10,000 keys to values")


def need_deed(deed):
    """Refuses all but deeds."""
    if not is_deed(deed):
        raise InvalidDeed("a deed is 1 to 6 pairs of a key and a value or None, keys ascending")


def done_on(pairs, deeds):
    """The pairs behind some deeds, keys ascending, whatever their number is; all were checked before."""
    state = dict(pairs)
    for deed in deeds:
        for key, value in deed:
            if value is None:
                state.pop(key, None)
            else:
                state[key] = value
    return ascending(state)


def done(pairs, deed):
    """The pairs behind the deed."""
    need_pairs(pairs)
    need_deed(deed)
    state = done_on(pairs, (deed,))
    if len(state) > MOST_KEYS:
        raise TooMany(MOST_KEYS)
    return state


def behind(deeds):
    """The pairs behind some deeds, from no pairs on."""
    _need_deeds(deeds)
    return done_on({}, deeds)


def unlike_keys(one, other):
    """The ascending tuple of the keys whose values are unlike in two pairs."""
    need_pairs(one)
    need_pairs(other)
    keys = sorted(set(list(one)) | set(list(other)))
    return tuple([key for key in keys if one.get(key) != other.get(key)])


def deed_between(one, other):
    """The deed that leads from the first pairs to the second ones, None for equal ones."""
    keys = unlike_keys(one, other)
    if len(keys) > MOST_SET:
        raise TooMany(MOST_SET)
    if not keys:
        return None
    return tuple([(key, other.get(key)) for key in keys])


class History:
    """A row of deeds, done on no pairs one after the other. It never changes."""

    def __init__(self, deeds):
        _need_deeds(deeds)
        self.deeds = deeds

    def __len__(self):
        return len(self.deeds)

    def __eq__(self, other):
        return isinstance(other, History) and self.deeds == other.deeds

    def __str__(self):
        return f"history of {len(self.deeds)} deeds, {_key_count(self.deeds)} keys"

    def at(self, moment):
        """The pairs at a moment."""
        self._need_moment(moment)
        return done_on({}, self.deeds[:moment])

    def value_at(self, moment, key):
        """The value of a key at a moment, or None."""
        self._need_moment(moment)
        need_key(key)
        return _values(self.deeds[:moment], key)[-1]

    def stretch(self, moment, key):
        """The stretch around the moment in which the key has the value that it has there."""
        self._need_moment(moment)
        need_key(key)
        values = _values(self.deeds, key)
        first = moment
        while first > 0 and values[first - 1] == values[moment]:
            first -= 1
        last = moment
        while last < len(self.deeds) and values[last + 1] == values[moment]:
            last += 1
        return (first, last)

    def moments_with(self, page):
        """The ascending tuple of the stretches of the moments at which the page stands."""
        if not is_page(page):
            raise InvalidValue("a page is a dict of at most 40 keys to values or None")
        unlike = {key: True for key, told in page.items() if told is not None}
        stands = [not unlike]
        for deed in self.deeds:
            for key, value in deed:
                if key in page and page[key] == value:
                    unlike.pop(key, None)
                elif key in page:
                    unlike[key] = True
            stands.append(not unlike)
        return _stretches(stands)

    def with_deed(self, deed):
        """The history with one more deed."""
        need_deed(deed)
        if len(self.deeds) == MOST_DEEDS:
            raise TooMany(MOST_DEEDS)
        # All other deeds were checked before: a long run need not check them at each step.
        longer = History(())
        longer.deeds = self.deeds + (deed,)
        return longer

    def _need_moment(self, moment):
        need_number(moment, 0, len(self.deeds))


def _is_setting(value):
    if not isinstance(value, tuple) or len(value) != 2:
        return False
    return is_key(value[0]) and is_value_or_none(value[1])


def _need_deeds(deeds):
    if not isinstance(deeds, tuple) or len(deeds) > MOST_DEEDS or not all([is_deed(deed) for deed in deeds]):
        raise InvalidDeed("deeds are a tuple of at most 1,500 deeds")


def _key_count(deeds):
    return len(done_on({}, deeds))


def _values(deeds, key):
    """The value of a key at each moment of a history."""
    values = [None]
    for deed in deeds:
        value = values[-1]
        for changed, told in deed:
            if changed == key:
                value = told
        values.append(value)
    return values


def _stretches(stands):
    """The pairs of the first and the last index of each stretch of what is true."""
    found = []
    for moment, does_stand in enumerate(stands):
        if does_stand and found and found[-1][1] == moment - 1:
            found[-1] = (found[-1][0], moment)
        elif does_stand:
            found.append((moment, moment))
    return tuple(found)
