"""Plain values, their texts, and sealed texts."""

from wholemoment.base.wholes import is_whole
from wholemoment.errors import InvalidValue, ParseError, TooMany

MOST_TEXT = 9000
MOST_STRING = 200
MOST_DEEP = 10
SEAL = 9973

_FIGURES = "0123456789"
_SIGNS = "abcdefghijklmnopqrstuvwxyz0123456789 .:;,-"
_MOST_FIGURES = 60
_MOST_SEALED = 9020
_MOST_ROW = 100000


def is_plain(value):
    """Whether the value is plain."""
    return _is_plain_within(value, MOST_DEEP)


def write_plain(value):
    """The text of a plain value."""
    if not is_plain(value):
        raise InvalidValue("only plain values have a text")
    text = _text_of(value)
    if len(text) > MOST_TEXT:
        raise TooMany(MOST_TEXT)
    return text


def read_plain(text):
    """The plain value with the text."""
    _need_text(text, MOST_TEXT)
    found = _scan(text)
    if found[0] == "wrong":
        raise ParseError(found[1])
    if found[0] == "cut":
        raise ParseError(len(text))
    if found[2] < len(text):
        raise ParseError(found[2])
    return found[1]


def seal_of(text):
    """The seal of a text, four figures."""
    _need_text(text, MOST_TEXT)
    if not _has_only_signs(text):
        raise ParseError(None)
    return _seal(text)


def sealed(value):
    """The sealed text of a plain value."""
    text = write_plain(value)
    return f"{len(text)}:{text}{_seal(text)};"


def unsealed(text):
    """("whole", value) for a sealed text, ("torn",) for a proper beginning of one, else ("wrong",)."""
    _need_text(text, _MOST_SEALED)
    found = _sealed_at(text, 0)
    if found is None:
        return ("torn",) if _begins_sealed(text) else ("wrong",)
    return ("whole", found[0]) if found[1] == len(text) else ("wrong",)


def parted(text):
    """The values of the sealed texts with which the text begins, and where what is left begins."""
    _need_text(text, _MOST_ROW)
    values = []
    at = 0
    found = _sealed_at(text, 0)
    while found is not None:
        value, at = found
        values.append(value)
        found = _sealed_at(text, at)
    return (tuple(values), at)


def _need_text(text, most):
    if not isinstance(text, str) or len(text) > most:
        raise ParseError(None)


def _has_only_signs(text):
    return all([sign in _SIGNS for sign in text])


def _is_plain_within(value, deep):
    if value is None or is_whole(value):
        return True
    if isinstance(value, str):
        return len(value) <= MOST_STRING and _has_only_signs(value)
    if not isinstance(value, tuple) or deep == 0:
        return False
    # One member at a time: the first that is not plain spares the rest, however deep it is.
    for member in value:
        if not _is_plain_within(member, deep - 1):
            return False
    return True


def _text_of(value):
    if value is None:
        return "n"
    if isinstance(value, int):
        return f"i{value};"
    if isinstance(value, str):
        return f"s{len(value)}:{value}"
    return f"t{len(value)}:" + "".join([_text_of(member) for member in value])


def _seal(text):
    total = sum([ord(sign) * place for place, sign in enumerate(text, start=1)])
    return str(total % SEAL).zfill(4)


def _sealed_at(text, at):
    """The value of the sealed text that begins at an index, and where it ends; None if none does."""
    head = _length(text, at, MOST_TEXT)
    if head[0] != "value":
        return None
    end = head[2] + head[1]
    body = text[head[2]:end]
    found = _scan(body)
    if found[0] != "whole" or found[2] < head[1]:
        return None
    tail = _seal(body) + ";"
    if text[end:end + len(tail)] != tail:
        return None
    return (found[1], end + len(tail))


def _begins_sealed(text):
    """Whether some sealed text begins so, if the text itself begins with none."""
    head = _length(text, 0, MOST_TEXT)
    if head[0] == "cut":
        # No text has the length 0, and none 2; but 2 begins 20, and all other figures begin a length, too.
        return text != "0"
    if head[0] == "wrong":
        return False
    end = head[2] + head[1]
    body = text[head[2]:end]
    found = _scan(body)
    if found[0] == "cut":
        return _can_end(body, found[1], found[2], end - len(text))
    if found[0] == "wrong" or found[2] < head[1]:
        return False
    return (_seal(body) + ";").startswith(text[end:])


def _scan(text):
    """What the text begins with, read as the text of a plain value.

    ("whole", value, end); ("wrong", index) of the first sign with which no such text goes on; or
    ("cut", start, waits) if it is a proper beginning: start is the index of its last token, which
    is not whole, and waits tells how many members behind this one are still to come, in the
    value itself (0) and in each tuple around the token, outermost first.
    """
    at = 0
    # The value itself is the one member of a row that is no tuple.
    rows = [(1, [])]
    while not rows[0][1]:
        found = _token(text, at, len(rows) - 1)
        if found[0] == "wrong":
            return found
        if found[0] == "cut":
            return ("cut", at, [wanted - len(members) - 1 for wanted, members in rows])
        if found[0] == "tuple":
            rows.append((found[1], []))
        else:
            rows[-1][1].append(found[1])
        at = found[2]
        while len(rows) > 1 and len(rows[-1][1]) == rows[-1][0]:
            members = rows.pop()[1]
            rows[-1][1].append(tuple(members))
    return ("whole", rows[0][1][0], at)


def _token(text, at, deep):
    """("value", value, end), ("tuple", length, end), ("wrong", index) or ("cut",)."""
    word = text[at:at + 1]
    if word == "":
        return ("cut",)
    if word == "n":
        return ("value", None, at + 1)
    if word == "i":
        return _integer(text, at + 1)
    if word == "s":
        return _string(text, at + 1)
    if word == "t" and deep < MOST_DEEP:
        found = _length(text, at + 1, MOST_TEXT)
        return ("tuple", found[1], found[2]) if found[0] == "value" else found
    return ("wrong", at)


def _integer(text, at):
    start = at
    if text[at:at + 1] == "-":
        start = at + 1
        if text[start:start + 1] == "0":
            return ("wrong", start)
    end = start
    while end < len(text) and end - start < _MOST_FIGURES and text[end] in _FIGURES:
        end += 1
        if text[start] == "0":
            break
    if end == len(text):
        return ("cut",)
    if end == start or text[end] != ";":
        return ("wrong", end)
    return ("value", int(text[at:end]), end + 1)


def _string(text, at):
    found = _length(text, at, MOST_STRING)
    if found[0] != "value":
        return found
    start = found[2]
    end = start + found[1]
    for index in range(start, min(end, len(text))):
        if text[index] not in _SIGNS:
            return ("wrong", index)
    if end > len(text):
        return ("cut",)
    return ("value", text[start:end], end)


def _length(text, at, most):
    """A length and its colon, read like a token."""
    length = 0
    end = at
    while end < len(text) and text[end] in _FIGURES:
        length = 10 * length + int(text[end])
        if length > most or (end > at and text[at] == "0"):
            return ("wrong", end)
        end += 1
    if end == len(text):
        return ("cut",)
    if end == at or text[end] != ":":
        return ("wrong", end)
    return ("value", length, end + 1)


def _can_end(text, start, waits, rest):
    """Whether a text that is cut at the told token goes on for just so many signs to its end."""
    wide = sum(waits[:MOST_DEEP])
    narrow = sum(waits[MOST_DEEP:])
    deep = len(waits) - 1
    for taken, members in _endings(text[start:]):
        # A missing token is one member of its row; other members stand in one more tuple.
        within = deep if start == len(text) else deep + 1
        if within < MOST_DEEP and _can_fill(wide + members, narrow, rest - taken):
            return True
        if within >= MOST_DEEP and _can_fill(wide, narrow + members, rest - taken):
            return True
    return False


def _endings(token):
    """The ways in which a token that is cut can end: how many signs that takes, and how many members follow it."""
    word, figures = token[:1], token[1:]
    if word == "":
        return [(0, 1)]
    if word == "i":
        return [(signs, 0) for signs in _integer_endings(figures)]
    if ":" in token:
        told, _, body = figures.partition(":")
        return [(int(told) - len(body), 0)]
    most = MOST_STRING if word == "s" else MOST_TEXT
    heads = [(length, len(str(length)) - len(figures) + 1) for length in _lengths_with(figures, most)]
    if word == "s":
        return [(signs + length, 0) for length, signs in heads]
    return [(signs, length) for length, signs in heads]


def _integer_endings(figures):
    """How many signs an integer can still take, the last one a semicolon."""
    if figures == "0":
        return [1]
    if figures == "":
        return list(range(2, _MOST_FIGURES + 3))
    if figures == "-":
        return list(range(2, _MOST_FIGURES + 2))
    seen = len(figures.lstrip("-"))
    return list(range(1, _MOST_FIGURES - seen + 2))


def _lengths_with(figures, most):
    """All lengths up to a greatest one that begin with the figures."""
    return [length for length in range(most + 1) if str(length).startswith(figures)]


def _can_fill(wide, narrow, rest):
    """Whether the texts of so many values have just so many signs together.

    A value that is no tuple has a text of 1 sign, of 3 to 103, or of 105 to 205; that is all that
    fits the narrow ones, which stand in ten tuples. The wide ones can be tuples: there are texts
    of 1 sign and of each length from 3 on. So together only one more than the fewest is missing,
    what is above the longest strings where all are narrow, and 104 for a narrow one alone.
    """
    fewest = wide + narrow
    if rest == fewest:
        return True
    if rest < fewest + 2:
        return False
    if wide > 0:
        return True
    return rest <= 205 * narrow and (narrow, rest) != (1, 104)
