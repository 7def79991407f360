"""Letters, the bag in which all of them lie, and rows that tell in which sequence they were handed."""

from wholemoment.base.wholes import is_within, need_number
from wholemoment.errors import InvalidLetter, InvalidOperation
from wholemoment.store.deeds import are_ascending, is_deed, is_key, is_value_or_none

MAX_HANDED = 2000
LETTER_WORDS = ("ask", "grant", "recall", "back", "deed", "done")

_MOST_MACHINE = 6
_MOST_READER = 5
_MOST_LENGTH = 200
_SIZES = {"ask": 5, "grant": 7, "recall": 4, "back": 5, "deed": 4, "done": 3}


def is_letter(value):
    """Whether the value is a letter."""
    if not isinstance(value, tuple) or not value or not isinstance(value[0], str):
        return False
    if value[0] not in LETTER_WORDS or len(value) != _SIZES[value[0]]:
        return False
    if value[0] in ("deed", "done"):
        return _is_of_reader(value)
    return _is_between_machines(value)


def sender(letter):
    """("machine", number) or ("reader", number): who sends a letter."""
    need_letter(letter)
    if letter[0] == "done":
        return ("machine", 0)
    return ("reader", letter[1]) if letter[0] == "deed" else ("machine", letter[1])


def goal(letter):
    """("machine", number) or ("reader", number): to whom a letter goes."""
    need_letter(letter)
    return _goal(letter)


class Bag:
    """All letters that were ever sent, by their numbers. It never changes."""

    def __init__(self, letters=()):
        _need_letters(letters)
        self.letters = letters

    def __len__(self):
        return len(self.letters)

    def __eq__(self, other):
        return isinstance(other, Bag) and self.letters == other.letters

    def __str__(self):
        return f"bag of {len(self.letters)} letters"

    def sent(self, letters):
        """The bag with some more letters behind the others."""
        _need_letters(letters)
        # All others were checked before: a long run need not check them at each step.
        fuller = Bag()
        fuller.letters = self.letters + letters
        return fuller

    def letter(self, number):
        """The letter with a number."""
        need_number(number, 0, len(self.letters) - 1)
        return self.letters[number]

    def to_machine(self, number):
        """The ascending tuple of the numbers of the letters to a machine."""
        need_number(number, 0, _MOST_MACHINE)
        return self._to(("machine", number))

    def to_reader(self, number):
        """The ascending tuple of the numbers of the letters to a reader."""
        need_number(number, 0, _MOST_READER)
        return self._to(("reader", number))

    def _to(self, told):
        return tuple([number for number, letter in enumerate(self.letters) if _goal(letter) == told])


def lost(bag, row):
    """The ascending tuple of the numbers of the letters that were never handed."""
    _need_bag(bag)
    _need_row(bag, row)
    handed = {number: True for number in row}
    return tuple([number for number in range(len(bag)) if number not in handed])


def doubles(bag, row):
    """How many doubles each letter has that has some, numbers ascending."""
    _need_bag(bag)
    _need_row(bag, row)
    counts = {}
    for number in sorted(row):
        counts[number] = counts.get(number, -1) + 1
    return {number: count for number, count in counts.items() if count > 0}


def turned(bag, row):
    """The ascending tuple of the pairs of numbers of turned letters."""
    _need_bag(bag)
    _need_row(bag, row)
    firsts = _firsts(row)
    pairs = [(early, late) for at, late in enumerate(firsts) for early in _turned_with(firsts, at)]
    return tuple(sorted(pairs))


def exchanges(bag, row):
    """Any of the fewest exchanges of neighbours behind which the first handings ascend."""
    _need_bag(bag)
    _need_row(bag, row)
    firsts = _firsts(row)
    told = []
    for end in range(len(firsts)):
        # What stands ahead of the end ascends: the one at the end goes down to its place.
        at = end
        while at > 0 and firsts[at - 1] > firsts[at]:
            at -= 1
            _exchange(firsts, at)
            told.append(at)
    return tuple(told)


def are_exchanges(bag, row, value):
    """Whether the value is such exchanges."""
    _need_bag(bag)
    _need_row(bag, row)
    firsts = _firsts(row)
    fewest = sum([len(_turned_with(firsts, at)) for at in range(len(firsts))])
    if not isinstance(value, tuple) or len(value) != fewest:
        return False
    if not all([is_within(at, 0, len(firsts) - 2) for at in value]):
        return False
    for at in value:
        _exchange(firsts, at)
    return are_ascending(firsts)


def need_letter(letter):
    """Refuses all but letters."""
    if not is_letter(letter):
        raise InvalidLetter("a letter has one of the told forms")


def _need_letters(letters):
    if not isinstance(letters, tuple) or not all([is_letter(letter) for letter in letters]):
        raise InvalidLetter("letters are a tuple of letters")


def _need_bag(bag):
    if not isinstance(bag, Bag):
        raise InvalidOperation("only an object of Bag is a bag")


def _need_row(bag, row):
    if not isinstance(row, tuple) or len(row) > MAX_HANDED:
        raise InvalidOperation("a row of handings is a tuple of at most 2,000 numbers")
    if not all([is_within(number, 0, len(bag) - 1) for number in row]):
        raise InvalidOperation("a row of handings has numbers of letters of the bag")


def _is_of_reader(value):
    if not is_within(value[1], 0, _MOST_READER) or not is_within(value[2], 1):
        return False
    return value[0] == "done" or is_deed(value[3])


def _is_between_machines(value):
    word, early, late, key = value[:4]
    if not is_within(early, 0, _MOST_MACHINE) or not is_within(late, 0, _MOST_MACHINE) or not is_key(key):
        return False
    # What goes down the tree goes to a greater number, what goes up to a lesser one.
    if word in ("grant", "recall"):
        if early >= late:
            return False
    elif early <= late:
        return False
    if word == "grant":
        return is_value_or_none(value[4]) and is_within(value[5], 0) and is_within(value[6], 0, _MOST_LENGTH)
    return word == "recall" or is_within(value[4], 0)


def _goal(letter):
    if letter[0] == "done":
        return ("reader", letter[1])
    return ("machine", 0) if letter[0] == "deed" else ("machine", letter[2])


def _firsts(row):
    """The first handings of a row alone."""
    return list({number: True for number in row})


def _turned_with(firsts, at):
    """What was sent ahead of the one at an index, and handed behind it."""
    return [early for early in firsts[at + 1:] if early < firsts[at]]


def _exchange(firsts, at):
    """Exchanges two neighbours in a list of the caller's own."""
    firsts[at], firsts[at + 1] = firsts[at + 1], firsts[at]
