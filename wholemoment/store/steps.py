"""Straight questions: their spans, and the steps that they make by one key."""

from wholemoment.store.deeds import MOST_VALUE
from wholemoment.store.forms import SIDES, clamped, key_places


def straight_span(question):
    """The least and the greatest answer of a straight question."""
    word = question[0]
    if word == "number":
        return (question[1], question[1])
    if word not in SIDES:
        return _leaf_ends(question)
    one, other = straight_span(question[1]), straight_span(question[2])
    if word == "plus":
        return (clamped(one[0] + other[0]), clamped(one[1] + other[1]))
    if word == "minus":
        return (clamped(one[0] - other[1]), clamped(one[1] - other[0]))
    if word == "least":
        return (min(one[0], other[0]), min(one[1], other[1]))
    return (max(one[0], other[0]), max(one[1], other[1]))


def _leaf_ends(question):
    word = question[0]
    if word == "there":
        return (0, 1)
    if word == "many":
        return (0, len(question[1]))
    return (-MOST_VALUE, MOST_VALUE)


def _side_with(question, key):
    """The index of the part of a straight question in which the key stands, None if there is none."""
    for side in (1, 2):
        if key in key_places(question[side]):
            return side
    return None


def step_ends(question, key):
    """The low and the high end of the steps that a straight question makes by a key, None if there are none."""
    word = question[0]
    if key not in key_places(question):
        return None
    ends = _leaf_ends(question)
    if word in SIDES:
        side = _side_with(question, key)
        inner = step_ends(question[side], key)
        if inner is None:
            return None
        ends = _moved(word, side, inner, straight_span(question[3 - side]))
    return ends if ends[0] < ends[1] else None


def _moved(word, side, ends, span):
    """The ends of the steps of a part, by those of one side of it and the span of the other one."""
    if word == "plus":
        return (clamped(ends[0] + span[0]), clamped(ends[1] + span[1]))
    if word == "minus" and side == 1:
        return (clamped(ends[0] - span[1]), clamped(ends[1] - span[0]))
    if word == "minus":
        return (clamped(span[0] - ends[1]), clamped(span[1] - ends[0]))
    if word == "least":
        return (ends[0], min(ends[1], span[1]))
    return (max(ends[0], span[0]), ends[1])


def step_pages(question, key, low):
    """Two pages, unlike in the key alone, of which the question makes low and low + 1, in either sequence."""
    word = question[0]
    if word not in SIDES:
        return _leaf_step(word, question[1], key, low)
    side = _side_with(question, key)
    beside = question[3 - side]
    start, number = _step_within(word, side, low, step_ends(question[side], key), straight_span(beside))
    early, late = step_pages(question[side], key, start)
    rest = _page_making(beside, number)
    early.update(rest)
    late.update(rest)
    return (early, late)


def _step_within(word, side, low, ends, span):
    """From where one side must step, and what the other side must make, so that the part steps from low."""
    if word == "plus":
        number = max(span[0], low + 1 - ends[1])
        return (low - number, number)
    if word == "minus" and side == 1:
        number = max(span[0], ends[0] - low)
        return (low + number, number)
    if word == "minus":
        number = max(span[0], ends[0] + low + 1)
        return (number - low - 1, number)
    return (low, span[1] if word == "least" else span[0])


def _leaf_step(word, told, key, low):
    if word == "key":
        return ({key: low}, {key: low + 1})
    if word == "there":
        return ({key: None}, {key: 0})
    others = [name for name in told if name != key]
    if word == "sum":
        early, late = {key: low}, {key: low + 1}
        rest = {name: None for name in others}
    else:
        early, late = {key: None}, {key: 0}
        rest = _first_with_value(others, low)
    early.update(rest)
    late.update(rest)
    return (early, late)


def _first_with_value(keys, many):
    return {key: 0 if place < many else None for place, key in enumerate(keys)}


def _page_making(question, number):
    """A page of which a straight question makes a number of its span."""
    word = question[0]
    if word == "number":
        return {}
    if word in SIDES:
        one, other = _parts_making(word, number, straight_span(question[1]), straight_span(question[2]))
        page = _page_making(question[1], one)
        page.update(_page_making(question[2], other))
        return page
    told = question[1]
    if word == "key":
        return {told: number}
    if word == "there":
        return {told: 0 if number == 1 else None}
    if word == "many":
        return _first_with_value(told, number)
    return {key: number if key == told[0] else None for key in told}


def _parts_making(word, number, one, other):
    """Two numbers of two spans of which the word makes a number."""
    if word == "plus":
        # Where both spans pass MOST the ends nearest to the number are clamped to it.
        first = min(max(number - other[0], one[0]), one[1])
        return (first, min(max(number - first, other[0]), other[1]))
    if word == "minus":
        first = min(max(number + other[0], one[0]), one[1])
        return (first, min(max(first - number, other[0]), other[1]))
    if word == "least":
        return (number, other[1]) if one[0] <= number else (one[1], number)
    return (number, other[0]) if number <= one[1] else (one[0], number)
