"""Questions about many keys, their answers, and the keys on which these hang."""

from wholemoment.errors import InvalidQuestion, InvalidValue, Refused
from wholemoment.store.deeds import is_value_or_none, need_key, need_pairs
from wholemoment.store.forms import SIDES, clamped, key_places, keys_in, size_within
from wholemoment.store.steps import step_ends, step_pages, straight_span

MAX_SIZE = 40
MOST = 999999999999

_STRAIGHT = ("number", "key", "there", "sum", "many", "plus", "minus", "least", "most")


def is_question(value):
    """Whether the value is a question."""
    return size_within(value, MAX_SIZE) is not None


def is_straight(value):
    """Whether the value is a straight question."""
    return is_question(value) and _has_only_straight_words(value) and _has_each_key_once(value)


def question_size(question):
    """The size of a question."""
    need_question(question)
    return size_within(question, MAX_SIZE)


def keys_of(question):
    """The ascending tuple of the keys of a question."""
    need_question(question)
    return keys_in(question)


def plain_answer(question, pairs):
    """The answer of a question for pairs."""
    need_question(question)
    need_pairs(pairs)
    return _answer(question, pairs)


def page_of(question, pairs):
    """The page of a question for pairs, keys ascending."""
    need_question(question)
    need_pairs(pairs)
    return {key: pairs.get(key) for key in keys_in(question)}


def answer_of_page(question, page):
    """The answer of a page of a question."""
    need_question(question)
    if not _is_page_of(question, page):
        raise InvalidValue("a page of a question has just its keys, each with a value or None")
    return _answer(question, page)


def span_of(question):
    """The pair of the least and the greatest answer of a straight question."""
    need_question(question)
    _need_straight(question)
    return straight_span(question)


def hangs_paper(question, key):
    """Any pair of pages, unlike in the key alone, with unlike answers; None if there is none."""
    need_question(question)
    need_key(key)
    _need_straight(question)
    ends = step_ends(question, key)
    if ends is None:
        return None
    early, late = step_pages(question, key, ends[0])
    keys = keys_in(question)
    return ({name: early[name] for name in keys}, {name: late[name] for name in keys})


def is_hangs_paper(question, key, value):
    """Whether the value is a pair of pages, unlike in the key alone, with unlike answers."""
    need_question(question)
    need_key(key)
    if not isinstance(value, tuple) or len(value) != 2:
        return False
    one, other = value
    if not _is_page_of(question, one) or not _is_page_of(question, other):
        return False
    if [name for name in one if one[name] != other[name]] != [key]:
        return False
    return _answer(question, one) != _answer(question, other)


def need_question(question):
    """Refuses all but questions."""
    if not is_question(question):
        raise InvalidQuestion("a question has one of the told forms, and a size of at most 40")


def _need_straight(question):
    if not is_straight(question):
        raise Refused(("straight",))


def _is_page_of(question, value):
    keys = keys_in(question)
    if not isinstance(value, dict) or len(value) != len(keys):
        return False
    return all([key in value and is_value_or_none(value[key]) for key in keys])


def _has_only_straight_words(question):
    if question[0] not in _STRAIGHT:
        return False
    return question[0] not in SIDES or all([_has_only_straight_words(part) for part in question[1:]])


def _has_each_key_once(question):
    return len(key_places(question)) == len(keys_in(question))


def _answer(question, pairs):
    word = question[0]
    if word not in SIDES:
        return _leaf_answer(word, question[1], pairs)
    parts = [_answer(part, pairs) for part in question[1:]]
    if word == "if":
        return parts[1] if parts[0] != 0 else parts[2]
    one, other = parts
    if word in ("plus", "minus", "times"):
        return clamped(_reckoned(word, one, other))
    if word == "least":
        return min(one, other)
    if word == "most":
        return max(one, other)
    return 1 if _holds(word, one, other) else 0


def _leaf_answer(word, told, pairs):
    if word == "number":
        return told
    if word == "key":
        return _counted(pairs, told)
    if word == "there":
        return 1 if pairs.get(told) is not None else 0
    if word == "sum":
        return clamped(sum([_counted(pairs, key) for key in told]))
    return len([key for key in told if pairs.get(key) is not None])


def _counted(pairs, key):
    """What a key counts: a page tells None where pairs have no key."""
    value = pairs.get(key)
    return 0 if value is None else value


def _reckoned(word, one, other):
    if word == "plus":
        return one + other
    if word == "minus":
        return one - other
    return one * other


def _holds(word, one, other):
    if word == "less":
        return one < other
    if word == "same":
        return one == other
    if word == "both":
        return one != 0 and other != 0
    return one != 0 or other != 0
