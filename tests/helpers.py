"""What several tests share: odd values, values near a right one, and how errors are told."""

from wholemoment.cache.copies import Copy, Shelf
from wholemoment.errors import InvalidNumber
from wholemoment.store.deeds import History


def nested(kind, depth):
    """A value that is nested so deep, by tuples, lists or dicts."""
    value = kind()
    for _ in range(depth - 1):
        value = {"a": value} if kind is dict else kind([value])
    return value


def doubled(depth):
    """A value in which one part stands again and again: walking through all of it takes very long."""
    value = ()
    for _ in range(depth - 1):
        value = (value, value)
    return value


def is_doubled(value):
    """Whether the value is, or has, one of those."""
    return type(value) is tuple and len(value) > 1 and type(value[-1]) is tuple and value[-1] is value[-2]


SHARED = doubled(23)
ODD = [
    None, True, False, 0, 1, -1, 2, 7, 8, 399, 400, 401, 10 ** 6, 10 ** 6 + 1,
    10 ** 12 - 1, 10 ** 12, -(10 ** 12 - 1), -(10 ** 12), 10 ** 60 - 1, 10 ** 60, -(10 ** 60), 10 ** 100 - 1,
    "", "a", "A", "ab", "abcdefgh", "abcdefghi", "a1", "a\n", "key", "n", "i1;", "x" * 3000, "{~}",
    (), (1,), (True,), (1, 2), (1, -1), (0, True), ("a",), ("a", "b"), ("b", "a"), ("a", "a"), (None, None),
    (("a", 1),), (("a", True),), [], [1, 2], [("a", 1)], {}, {"a": 1}, {"a": None}, {"a": True}, {"A": 1}, {1: 1},
    {None: "a", (1, 2): 3, "a": {}}, ("number", 1), ("number", True), ("key", "a"), ["key", "a"], ("sum", ()),
    nested(tuple, 10), nested(tuple, 11), nested(tuple, 24), nested(list, 24), nested(dict, 24), doubled(24),
    ("plus", SHARED, SHARED), Copy("a", 1, (0, 0), 5), (Copy("a", 1, (0, 0), 5),), Shelf(), History(()),
    InvalidNumber(3),
]


def mutants(value):
    """Values that are near a value, and unlike it."""
    if isinstance(value, (tuple, list)):
        yield list(value) if isinstance(value, tuple) else tuple(value)
        yield value + value[:1] if value else type(value)((0,))
        for index, member in enumerate(value):
            yield value[:index] + value[index + 1:]
            for other in mutants(member):
                yield value[:index] + type(value)((other,)) + value[index + 1:]
    elif isinstance(value, dict):
        yield list(value.items())
        yield {**value, "zzz": 1}
        yield {**value, 1: 1}
        for key, member in value.items():
            yield {other: told for other, told in value.items() if other != key}
            for other in mutants(member):
                yield {**value, key: other}
    elif isinstance(value, bool):
        yield int(value)
    elif isinstance(value, int):
        yield from (value + 1, value - 1, -value or 5, str(value), None, (value,), 10 ** 60)
        if value in (0, 1):
            yield bool(value)
    elif isinstance(value, str):
        yield from (value + "a", value[1:], value.upper() or "A", None, 1, (value,), value + "\n")
    else:
        yield from (0, False, (), "")


def is_int(value, low, high=10 ** 60 - 1):
    """What the tests take for an integer, told anew here."""
    return type(value) is int and low <= value <= high and abs(value) < 10 ** 60


def the_error(call, *arguments):
    """The error that a call raises, None if it raises none."""
    try:
        call(*arguments)
    except Exception as error:
        return error
    return None


def assert_raises(test, error, kept, call, *arguments):
    """The call raises just this error; kept is None, or a pair of the attribute and what it keeps."""
    found = the_error(call, *arguments)
    test.assertIs(type(found), error, (call, arguments, found))
    if kept is not None:
        test.assertIs(type(getattr(found, kept[0])), type(kept[1]))
        test.assertEqual(getattr(found, kept[0]), kept[1])
