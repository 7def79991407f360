"""The table of what stages 7 to 13 take, for test_arguments: (call, (valid, judge, error, attribute), ..)."""

from helpers import is_int
from told_views import is_key, is_told, is_view, is_world
from wholemoment import errors
from wholemoment.disk import disk, log
from wholemoment.know import views
from wholemoment.lend import books, cache, origin, setups
from wholemoment.net import letters
from wholemoment.store.questions import is_question

RULES = ("spread", "stamp", "fence", "since", "wait", "below", "within", "common", "late", "ceiling", "held")
VIEW = (2, (0, 1, 6), (("a", 5, ((0, 1, 6),), None),), 2, 0)
WORLD = ((((1, 2),), ((1, 2),) * 5), (((0, 0),),), ((5, (((1, 3), None),)),))
ANY = ((1, 0), None, None, None)


def number(valid, low=0, high=10 ** 60 - 1):
    return (valid, lambda value: is_int(value, low, high), errors.InvalidNumber, "given")


def thing(valid, error):
    return (valid, lambda value: type(value) is type(valid), error, None)


def is_block(value):
    return type(value) is str and 1 <= len(value) <= 1000 and all(" " <= sign <= "~" for sign in value)


def are_blocks(value):
    return type(value) is tuple and all(map(is_block, value))


def is_kept(value):
    return type(value) is tuple and all(is_int(signs, 0, 1000) for signs in value)


def are_steps(value):
    return type(value) is tuple and len(value) <= 400 and all(
        type(step) is tuple and (step == ("sync",) or len(step) == 2 and step[0] == "put" and is_block(step[1])) for step in value)


def is_deed(value):
    return (type(value) is tuple and 1 <= len(value) <= 6
            and all(type(pair) is tuple and len(pair) == 2 and is_key(pair[0]) and is_told(pair[1]) for pair in value)
            and [key for key, _ in value] == sorted({key for key, _ in value}))


def is_record(value):
    if type(value) is not tuple or len(value) not in (2, 4) or type(value[0]) is not str:
        return False
    if len(value) == 2:
        return value[0] == "lend" and is_int(value[1], 0)
    return value[0] == "deed" and is_int(value[1], 0, 5) and is_int(value[2], 1) and is_deed(value[3])


def is_tree(value):
    return type(value) is tuple and 1 <= len(value) <= 6 and all(is_int(told, 0, at) for at, told in enumerate(value))


def are_letters(value):
    return type(value) is tuple and all(map(letters.is_letter, value))


def is_row(value):
    return type(value) is tuple and len(value) <= 2000 and all(is_int(told, 0, 1) for told in value)


def is_lent(value):
    if value is None:
        return True
    return type(value) is dict and all(
        type(place) is tuple and len(place) == 2 and is_int(place[0], 1, 6) and is_key(place[1]) and type(entry) is tuple
        and len(entry) == 2 and all(is_int(told, 0) for told in entry) for place, entry in value.items())


def are_keys(value):
    return type(value) is tuple and all(map(is_key, value))


def is_instant(value):
    return type(value) is tuple and len(value) == 2 and all(is_int(told, 0) for told in value)


def are_readers(value):
    return type(value) is tuple and 1 <= len(value) <= 6 and all(is_int(place, 1, 2) for place in value)


def is_rule(value):
    return value is None or type(value) is str and value in RULES


def is_for_origin(value):
    if not letters.is_letter(value):
        return False
    return value[0] in ("ask", "back") and value[1:3] == (1, 0) or value[0] == "deed" and value[1] < 2


def setup_of(spread, parents, term, span, patience, readers):
    return setups.Setup(spread, parents, term, span=span, patience=patience, readers=readers)


def cache_of(setup, told, since, without):
    return cache.Cache(setup, told, since=since, without=without)


def origin_of(setup, without):
    return origin.Origin(setup, without=without)


def risen_of(setup, told, reading, without):
    return origin.Origin.risen(setup, told, reading, without=without)


BLOCK = ("ab", is_block, errors.InvalidBlock, None)
BLOCKS = (("ab", "c"), are_blocks, errors.InvalidBlock, None)
OF_DISK = (("ab", "c"), are_blocks, errors.InvalidDisk, None)
A_DISK = disk.Disk(("ab",), ("cd", "e"))
DISK = thing(A_DISK, errors.InvalidDisk)
SURE = thing(disk.Disk(("ab",)), errors.InvalidDisk)
STEPS = ((("put", "ab"), ("sync",), ("put", "c")), are_steps, errors.InvalidOperation, None)
RECORD = (("deed", 0, 1, (("a", 5), ("b", None))), is_record, errors.InvalidRecord, None)
A_KEPT = log.Kept((log.block_of(RECORD[0]), log.block_of(("lend", 40))))
KEPT = thing(A_KEPT, errors.InvalidRecord)
ASK, GRANT = ("ask", 1, 0, "a", 5), ("grant", 0, 1, "a", None, 5, 12)
A_BAG = letters.Bag((ASK, GRANT))
LETTERS = ((ASK, GRANT), are_letters, errors.InvalidLetter, None)
LETTER = (GRANT, letters.is_letter, errors.InvalidLetter, None)
BAG = thing(A_BAG, errors.InvalidOperation)
ROW = ((1, 0, 1), is_row, errors.InvalidOperation, None)
TREE = ((0, 1), is_tree, errors.InvalidSetup, None)
A_SETUP = setups.Setup(2, (0, 1), 12, readers=(1, 1))
SETUP = thing(A_SETUP, errors.InvalidSetup)
A_BOOK = books.Book({(1, "a"): (5, 9), (2, "a"): (0, 3)})
KEY = ("a", is_key, errors.InvalidKey, None)
RULE = ("late", is_rule, errors.InvalidOperation, None)
QUESTION = (("plus", ("key", "a"), ("number", 1)), is_question, errors.InvalidQuestion, None)
DEED_OF = ((("a", 5), ("b", None)), is_deed, errors.InvalidDeed, None)
FLOOR = ((1, 0), is_instant, errors.InvalidInstant, None)
AN_ORIGIN = origin.Origin(A_SETUP).heard(ASK, 5)
A_CACHE = cache.Cache(A_SETUP, 1).heard(GRANT, 6)[0]
TOLD_VIEW = (VIEW, is_view, errors.InvalidView, None)


def in_setup(valid, low, high):
    return (valid, lambda value: is_int(value, low, high), errors.InvalidSetup, None)


LENT_CALLS = (
    (views.told_stretch, TOLD_VIEW), (views.is_world, TOLD_VIEW, ANY), (views.either, TOLD_VIEW),
    (views.page_stands, TOLD_VIEW, (WORLD, lambda value: is_world(VIEW, value), errors.InvalidWorld, None)),
    (views.is_either, TOLD_VIEW, ANY),
    (disk.Disk, OF_DISK, OF_DISK), (A_DISK.put, BLOCK), (A_DISK.synced,),
    (A_DISK.fallen, ((1, 0), is_kept, errors.InvalidOperation, None)),
    (disk.can_be_left, DISK, ANY), (disk.fall_to, DISK, BLOCKS), (disk.is_fall_to, DISK, BLOCKS, ANY),
    (disk.disk_of, STEPS), (disk.moments_for, STEPS, BLOCKS),
    (log.block_of, RECORD), (log.record_in, BLOCK), (log.Kept, BLOCKS), (A_KEPT.behind, BLOCK), (log.read_log, BLOCKS),
    (log.uses, BLOCKS), (log.short_log, KEPT), (log.is_short_log, KEPT, ANY), (log.can_be_read, DISK, ANY),
    (letters.sender, LETTER), (letters.goal, LETTER), (letters.Bag, LETTERS), (A_BAG.sent, LETTERS), (A_BAG.letter, number(1, 0, 1)),
    (A_BAG.to_machine, number(6, 0, 6)), (A_BAG.to_reader, number(5, 0, 5)), (letters.lost, BAG, ROW), (letters.doubles, BAG, ROW),
    (letters.turned, BAG, ROW), (letters.exchanges, BAG, ROW), (letters.are_exchanges, BAG, ROW, ANY),
    (setups.children_of, TREE, number(2, 0, 2)), (setups.path_of, TREE, number(2, 0, 2)), (setups.depth_of, TREE, number(2, 0, 2)),
    (setups.below, TREE, number(1, 0, 2)),
    (setup_of, in_setup(2, 1, 6), TREE, in_setup(9, 1, 200), in_setup(0, 0, 200), in_setup(3, 1, 20),
     ((1, 2), are_readers, errors.InvalidSetup, None)),
    (books.Book, ({(1, "a"): (5, 9)}, is_lent, errors.InvalidBook, None)),
    (A_BOOK.granted, number(1, 1, 6), KEY, number(1), number(9)), (A_BOOK.backed, number(1, 1, 6), KEY, number(1)),
    (A_BOOK.swept, number(1)), (A_BOOK.holders, KEY, number(1)), (A_BOOK.held_keys, number(1)),
    (A_BOOK.when_free, (("b", "a"), are_keys, errors.InvalidKey, None)),
    (origin_of, SETUP, RULE), (risen_of, SETUP, SURE, number(7), RULE),
    (AN_ORIGIN.heard, (ASK, is_for_origin, errors.InvalidLetter, None), number(7)), (AN_ORIGIN.looked, number(7)),
    (AN_ORIGIN.synced,), (AN_ORIGIN.sent,), (AN_ORIGIN.fallen, ((1, 0), is_kept, errors.InvalidOperation, None)),
    (cache_of, SETUP, number(1, 1, 2), (3, lambda value: value is None or is_int(value, 0), errors.InvalidNumber, "given"), RULE),
    (A_CACHE.heard, LETTER, number(7)), (A_CACHE.looked, number(7)),
    (A_CACHE.read, number(1, 0, 1), number(1, 1), QUESTION, number(3, 0, 10 ** 6), FLOOR, number(7)),
    (A_CACHE.forgotten, number(1, 0, 1)),
)
LENT_JUDGES = (
    views.is_view, disk.is_block, disk.is_kept, disk.are_steps, log.is_record, letters.is_letter, setups.is_tree,
)
LENT_THINGS = (A_DISK, A_KEPT, A_BAG, A_SETUP, A_BOOK, AN_ORIGIN, A_CACHE)
LENT_METHODS = {
    disk.Disk: ("put", "synced", "fallen", "__eq__", "__len__", "__str__"),
    log.Kept: ("behind", "__eq__", "__len__", "__str__"),
    letters.Bag: ("sent", "letter", "to_machine", "to_reader", "__len__", "__eq__", "__str__"),
    setups.Setup: ("__eq__", "__str__"),
    books.Book: ("granted", "backed", "swept", "holders", "held_keys", "when_free", "__contains__", "__len__", "__eq__"),
    origin.Origin: ("heard", "looked", "synced", "sent", "fallen", "risen", "__eq__", "__str__"),
    cache.Cache: ("heard", "looked", "read", "forgotten", "__eq__", "__str__"),
}
