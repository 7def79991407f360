"""Drawn runs of systems: a foe that loses, doubles and delays letters, lets machines fall, and drives the clocks."""

import random

from wholemoment.lend.setups import Setup
from wholemoment.run.systems import System

SHAPES = ((0,), (0, 1), (0, 0), (0, 1, 1), (0, 1, 2), (0, 0, 1, 2), (0, 1, 2, 3, 4, 5))


def some_setup(rng, shapes=SHAPES[:5]):
    parents = rng.choice(shapes)
    readers = tuple(rng.randrange(1, len(parents) + 1) for _ in range(rng.randrange(1, 4)))
    return Setup(rng.randrange(1, 4), parents, rng.choice((3, 6, 12)), span=rng.choice((0, 10)), patience=rng.choice((1, 3)),
                 readers=readers)


def some_question(rng, keys):
    names = tuple(sorted(rng.sample(keys, rng.randrange(1, len(keys) + 1))))
    return rng.choice((("sum", names), ("many", names), ("key", names[0]), ("plus", ("there", names[0]), ("sum", names)),
                       ("if", ("key", names[-1]), ("sum", names), ("number", 7))))


def some_deed(rng, keys, value):
    names = sorted(rng.sample(keys, rng.randrange(1, len(keys) + 1)))
    return tuple((name, rng.choice((None, value, value, -value))) for name in names)


def some_letter(rng, system, is_mild):
    """The number of a letter: mostly one of the newest, with a mild foe one of the first that was not handed yet."""
    last = len(system.bag) - 1
    if is_mild and rng.random() < 0.9:
        handed = {event[1] for event in system.events if event[0] == "hand"}
        waiting = [number for number in range(last + 1) if number not in handed]
        if waiting:
            return rng.choice(waiting[:2])
    return max(0, last - rng.choice((0, 0, 0, 1, 1, 2, 3, 5, 8, rng.randrange(last + 1))))


def some_event(rng, system, keys="ab", is_mild=False):
    """An event that the foe draws."""
    setup, act = system.setup, rng.random()
    machine, reader = rng.randrange(setup.machines), rng.randrange(len(setup.readers))
    bounds = (0.12, 0.16, 0.62, 0.77, 0.775, 0.8, 0.93, 0.97) if is_mild else (0.2, 0.28, 0.7, 0.8, 0.815, 0.86, 0.94, 0.97)
    word = ("beat", "look", "hand", "sync", "fall", "rise", "read", "write", "other")[sum(act >= bound for bound in bounds)]
    if word == "beat":
        return ("beat", tuple(rng.randrange(1, setup.spread + 1) for _ in range(setup.machines)))
    if word == "look" or word == "hand" and not len(system.bag):
        return ("look", machine)
    if word == "hand":
        return ("hand", some_letter(rng, system, is_mild))
    if word == "sync":
        return ("sync",)
    if word == "fall":
        return ("fall", machine, tuple(rng.choice((0, 5, 1000)) for _ in range(rng.randrange(4))) if machine == 0 else ())
    if word == "rise":
        down = [number for number, cache in system.caches.items() if cache is None] + ([0] if system.origin is None else [])
        return ("rise", rng.choice(down) if down else machine)
    if word == "read":
        return ("read", reader, some_question(rng, keys), rng.choice((0, 0, 3, 8)))
    if word == "write":
        return ("write", reader, some_deed(rng, keys, len(system) + 1))
    return ("again", reader) if rng.random() < 0.8 else ("drop", reader)


def some_system(seed, without=None, events=150, shapes=SHAPES[:5], keys="ab"):
    """A drawn system, and the systems on the way to it; each other foe is a mild one."""
    rng = random.Random(seed)
    system = System(some_setup(rng, shapes), without=without)
    row = [system]
    for _ in range(events):
        system = system.done(some_event(rng, system, keys, seed % 2 == 1))
        row.append(system)
    return row
