"""For each rule a run that breaks without it: behind the deed an answer still shows what was ahead of it.

The runs can be done with all rules, too. Where a letter goes that is not sent then, the deed has been
sent again: so another letter has its number.
"""

_SHOWN = ("key", "a")
_DEED = (("a", 5),)


def broken_run_of(word):
    """The run for the word of a rule."""
    make = _RUNS[word]
    return make()


def _told(spread, parents, term, readers):
    """The parts of a setup, with no span and the patience 3."""
    return (spread, parents, term, 0, 3, readers)


def _lent():
    """A read at the cache 1 from which it asks, and the grant (letter 1), which is not handed yet."""
    return (("read", 0, _SHOWN, 0), ("hand", 0), ("sync",))


def _lent_below():
    """A read at the cache 2, below the cache 1, until it is answered (letters 0 to 3)."""
    asks = (("read", 0, _SHOWN, 0), ("hand", 0), ("hand", 1), ("sync",))
    return asks + (("hand", 2), ("hand", 3))


def _written(letter):
    """A deed that comes to the origin by the letter with this number, and the sync behind it."""
    return (("write", 0, _DEED), ("hand", letter), ("sync",))


def _beats(times, advances):
    return tuple([("beat", advances) for _ in range(times)])


def _spread_run():
    """The lender's clock goes twice as far: its lease is over while the copy, by the own clock, is not."""
    events = _lent() + (("hand", 1),) + _beats(3, (2, 1)) + _written(2) + (("read", 0, _SHOWN, 0),)
    return (_told(2, (0,), 4, (1,)), events)


def _late_run():
    """The grant comes when its lease is over, and the deed is done."""
    return (_told(1, (0,), 4, (1,)), _lent() + _beats(5, (1, 1)) + _written(2) + (("hand", 1),))


def _given_back():
    """The key is given back (letters 3 and 4) ahead of its grant, and the deed is done."""
    return _lent() + _written(2) + (("hand", 3), ("hand", 4), ("sync",))


def _fence_run():
    """The grant comes behind the deed, though the key was given back."""
    return (_told(1, (0,), 9, (1,)), _given_back() + (("hand", 1),))


def _since_run():
    """So, and a fall between took the fence away."""
    events = _given_back() + (("fall", 1, ()), ("rise", 1), ("hand", 1), ("read", 0, _SHOWN, 0))
    return (_told(1, (0,), 9, (1,)), events)


def _wanted_back(letter):
    """The recall (letter 5) comes to the cache 1, what it gives back to the origin, and the cache 2 is asked again."""
    return (("hand", 5), ("again", 0), ("hand", letter), ("sync",), ("read", 0, _SHOWN, 0))


def _wait_run():
    """A cache that fell has no book any more, and gives back (letter 6) what its child still holds."""
    fallen = _lent_below() + (("fall", 1, ()), ("rise", 1)) + _written(4)
    return (_told(1, (0, 1), 9, (2,)), fallen + _wanted_back(6))


def _below_run():
    """A cache gives back (letter 7) what its child still holds, as the recall to it (letter 6) is lost."""
    return (_told(1, (0, 1), 9, (2,)), _lent_below() + _written(4) + _wanted_back(7))


def _within_run():
    """The cache 1 lends for longer than it holds the key itself."""
    lent = _lent() + (("hand", 1),) + _beats(3, (1, 1, 1))
    lent_on = (("read", 1, _SHOWN, 0), ("hand", 2), ("hand", 3)) + _beats(2, (1, 1, 1))
    return (_told(1, (0, 1), 4, (1, 2)), lent + lent_on + _written(4) + (("read", 1, _SHOWN, 0),))


def _common_run():
    """One key was true ahead of the deed that sets both, the other one, by another reader's read, is true behind it."""
    early = _lent() + (("hand", 1),) + _beats(5, (1, 1))
    deed = (("write", 0, (("a", 5), ("b", 6))), ("hand", 2), ("sync",))
    late = (("read", 1, ("key", "b"), 0), ("hand", 4), ("sync",), ("hand", 5))
    return (_told(1, (0,), 4, (1, 1)), early + deed + late + (("read", 0, ("sum", ("a", "b")), 9),))


def _ceiling_run():
    """The origin falls, and its book with it; risen, it puts the deed at once."""
    fallen = _lent() + (("hand", 1), ("fall", 0, ()), ("rise", 0))
    return (_told(1, (0,), 9, (1,)), fallen + _written(2) + (("read", 0, _SHOWN, 0),))


def _held_run():
    """The grant (letter 3) leaves ahead of the sync, and a fall takes back the deed that it shows."""
    put = (("read", 0, _SHOWN, 0), ("write", 0, _DEED), ("hand", 1), ("hand", 0), ("again", 0), ("again", 0))
    return (_told(1, (0,), 9, (1,)), put + (("hand", 3), ("fall", 0, ())))


_RUNS = {
    "spread": _spread_run, "stamp": _late_run, "fence": _fence_run, "since": _since_run, "wait": _wait_run,
    "below": _below_run, "within": _within_run, "common": _common_run, "late": _late_run, "ceiling": _ceiling_run,
    "held": _held_run,
}
