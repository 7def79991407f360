"""Trees of caches, and what all machines of a run have in common."""

from wholemoment.base.wholes import is_within, need_number
from wholemoment.errors import InvalidSetup
from wholemoment.time.clocks import MAX_SPREAD

_MOST_CACHES = 6
_MOST_TERM = 200
_MOST_SPAN = 200
_MOST_PATIENCE = 20
_MOST_READERS = 6


def is_tree(value):
    """Whether the value is a tree."""
    if not isinstance(value, tuple) or not 1 <= len(value) <= _MOST_CACHES:
        return False
    return all([is_within(parent, 0, index) for index, parent in enumerate(value)])


def children_of(parents, machine):
    """The ascending tuple of the caches whose parent a machine is."""
    _need_machine(parents, machine)
    return tuple([index + 1 for index, parent in enumerate(parents) if parent == machine])


def path_of(parents, machine):
    """The path from a machine up to the origin, the nearest machine first."""
    _need_machine(parents, machine)
    return _path(parents, machine)


def depth_of(parents, machine):
    """How many machines stand on the path of a machine."""
    _need_machine(parents, machine)
    return len(_path(parents, machine))


def below(parents, machine):
    """The ascending tuple of all machines below a machine."""
    _need_machine(parents, machine)
    return tuple([cache for cache in range(1, len(parents) + 1) if machine in _path(parents, cache)])


class Setup:
    """What all machines of a run have in common. It never changes."""

    def __init__(self, spread, parents, term, *, span=0, patience=3, readers=(1,)):
        _need_part(is_within(spread, 1, MAX_SPREAD))
        _need_part(is_tree(parents))
        _need_part(is_within(term, 1, _MOST_TERM))
        _need_part(is_within(span, 0, _MOST_SPAN))
        _need_part(is_within(patience, 1, _MOST_PATIENCE))
        _need_part(_are_readers(readers, len(parents)))
        self.spread = spread
        self.parents = parents
        self.term = term
        self.span = span
        self.patience = patience
        self.readers = readers
        self.caches = len(parents)
        self.machines = len(parents) + 1

    def __eq__(self, other):
        return (isinstance(other, Setup) and self.spread == other.spread and self.parents == other.parents
                and self.term == other.term and self.span == other.span and self.patience == other.patience
                and self.readers == other.readers)

    def __str__(self):
        return f"setup of {self.caches} caches, {len(self.readers)} readers"


def need_setup(setup):
    """Refuses all but setups."""
    if not isinstance(setup, Setup):
        raise InvalidSetup("only an object of Setup is a setup")


def _need_machine(parents, machine):
    if not is_tree(parents):
        raise InvalidSetup("a tree is a tuple of 1 to 6 parents, each one ahead of its cache")
    need_number(machine, 0, len(parents))


def _need_part(is_right):
    if not is_right:
        raise InvalidSetup("a part of the setup is not within what the document tells")


def _are_readers(value, caches):
    if not isinstance(value, tuple) or not 1 <= len(value) <= _MOST_READERS:
        return False
    return all([is_within(place, 1, caches) for place in value])


def _path(parents, machine):
    path = []
    above = machine
    while above > 0:
        above = parents[above - 1]
        path.append(above)
    return tuple(path)
