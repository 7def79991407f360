"""The lines of a run: a word and its parts, parted by one blank."""

from wholemoment.base.texts import read_plain, write_plain
from wholemoment.errors import ParseError

_FIGURES = "0123456789"
_MOST_FIGURES = 60
# How the parts behind the word are written.
_PARTS = {
    "setup": ("number", "row", "number", "number", "number", "row", "word"),
    "beat": ("row",), "look": ("number",), "hand": ("number",), "sync": (), "fall": ("number", "row"),
    "rise": ("number",), "read": ("number", "plain", "number"), "write": ("number", "plain"),
    "again": ("number",), "drop": ("number",),
}


def line_of(told):
    """The line of an event, or of a setup that is told by its word and its parts."""
    kinds = _PARTS[told[0]]
    pieces = [_piece_of(kind, part) for kind, part in zip(kinds, told[1:])]
    return " ".join([told[0]] + pieces)


def told_in(line):
    """The word and the parts with this line, None if it is not written so; what they mean is not asked."""
    word, *pieces = line.split(" ")
    if word not in _PARTS or len(pieces) != len(_PARTS[word]):
        return None
    parts = [_part_in(kind, piece) for kind, piece in zip(_PARTS[word], pieces)]
    return None if None in parts else (word,) + tuple(parts)


def _piece_of(kind, part):
    if kind == "row":
        return ",".join([str(number) for number in part]) if part else "-"
    return write_plain(part) if kind == "plain" else str(part)


def _part_in(kind, piece):
    """The part with this piece, None if there is none."""
    if kind == "number":
        return _number_in(piece)
    if kind == "row":
        return _row_in(piece)
    return _plain_in(piece) if kind == "plain" else piece


def _number_in(piece):
    if not 1 <= len(piece) <= _MOST_FIGURES or not all([sign in _FIGURES for sign in piece]):
        return None
    return None if piece[0] == "0" and len(piece) > 1 else int(piece)


def _row_in(piece):
    if piece == "-":
        return ()
    numbers = [_number_in(told) for told in piece.split(",")]
    return None if None in numbers else tuple(numbers)


def _plain_in(piece):
    try:
        return read_plain(piece)
    except ParseError:
        return None
