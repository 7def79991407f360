"""Arguments [0.1] to [0.5], [0.7]: each wrong one is refused, in the sequence of the parameters, and none is changed."""

import unittest

from helpers import ODD, assert_raises, is_doubled, is_int, mutants
from lent_calls import LENT_CALLS, LENT_JUDGES, LENT_METHODS, LENT_THINGS
from run_calls import RUN_CALLS, RUN_JUDGES, RUN_METHODS, RUN_THINGS
from wholemoment import errors
from wholemoment.base import texts
from wholemoment.cache import copies, moments
from wholemoment.store import deeds, questions
from wholemoment.time import clocks

OWN_ERRORS = (errors.MomentError, errors.InvalidNumber, errors.UnknownName, errors.NothingToUndo, errors.TooMany, errors.Refused)
SIDES = {"if": 3}
for WORD in ("plus", "minus", "times", "least", "most", "less", "same", "both", "any"):
    SIDES[WORD] = 2


def is_key(value):
    return type(value) is str and 1 <= len(value) <= 8 and set(value) <= set("abcdefghijklmnopqrstuvwxyz")


def is_told(value):
    return value is None or is_int(value, -(10 ** 12 - 1), 10 ** 12 - 1)


def is_pairs(value):
    return (type(value) is dict and len(value) <= 10000
            and all(is_key(key) and told is not None and is_told(told) for key, told in value.items()))


def is_page(value):
    return type(value) is dict and len(value) <= 40 and all(is_key(k) and is_told(v) for k, v in value.items())


def is_keys(value):
    return type(value) is tuple and all(map(is_key, value)) and list(value) == sorted(set(value))


def is_deed(value):
    return (type(value) is tuple and 1 <= len(value) <= 6
            and all(type(pair) is tuple and len(pair) == 2 and is_key(pair[0]) and is_told(pair[1]) for pair in value)
            and is_keys(tuple(pair[0] for pair in value)))


def are_deeds(value):
    return type(value) is tuple and len(value) <= 1500 and all(map(is_deed, value))


def is_plain(value, deep=10):
    if type(value) is tuple:
        return deep > 0 and all(is_plain(member, deep - 1) for member in value)
    if type(value) is str:
        return len(value) <= 200 and set(value) <= set("abcdefghijklmnopqrstuvwxyz0123456789 .:;,-")
    return value is None or is_int(value, -(10 ** 60))


def size(value):
    """The size of a question, 99 for all else."""
    if type(value) is not tuple or len(value) < 2 or type(value[0]) is not str:
        return 99
    if value[0] in SIDES:
        return min(99, 1 + sum(map(size, value[1:]))) if len(value) == 1 + SIDES[value[0]] else 99
    if len(value) != 2:
        return 99
    if value[0] in ("sum", "many"):
        return 1 + len(value[1]) if is_keys(value[1]) and value[1] else 99
    if value[0] in ("key", "there"):
        return 1 if is_key(value[1]) else 99
    return 1 if value[0] == "number" and is_told(value[1]) and value[1] is not None else 99


def is_question(value):
    return size(value) <= 40


def is_page_of_question(value):
    return is_page(value) and set(value) == {"a", "b", "c"}


def is_course(value):
    return (type(value) is tuple and len(value) <= 400 and all(
        type(beat) is tuple and len(beat) == 2 and all(is_int(step, 1, 3) for step in beat) for beat in value))


def are_readings(value):
    return type(value) is tuple and 1 <= len(value) <= 7 and all(is_int(reading, 0, 400) for reading in value)


def is_instant(value):
    return type(value) is tuple and len(value) == 2 and all(is_int(member, 0) for member in value)


def are_copies(value):
    return type(value) is tuple and all(type(copy) is copies.Copy for copy in value)


def are_ascending_copies(value):
    return are_copies(value) and is_keys(tuple(copy.key for copy in value))


def are_unlike_copies(value):
    return are_copies(value) and len(value) <= 40 and len({copy.key for copy in value}) == len(value)


def number(valid, low=0, high=10 ** 60 - 1):
    return (valid, lambda value: is_int(value, low, high), errors.InvalidNumber, "given")


QUESTION = ("plus", ("sum", ("a", "b")), ("minus", ("key", "c"), ("number", 1)))
KEY = ("a", is_key, errors.InvalidKey, None)
VALUE = (1, is_told, errors.InvalidValue, None)
PAIRS = ({"b": 1, "a": 0}, is_pairs, errors.InvalidValue, None)
DEED = ((("a", 1), ("b", None)), is_deed, errors.InvalidDeed, None)
DEEDS = (((("a", 1),), (("a", 0), ("b", None))), are_deeds, errors.InvalidDeed, None)
PLAIN = ((1, (0, "a"), None), is_plain, errors.InvalidValue, None)
ASKED = (QUESTION, is_question, errors.InvalidQuestion, None)
SPREAD = number(3, 1, 6)
MACHINES = number(2, 1, 7)
COURSE = (((1, 3), (2, 1)), is_course, errors.InvalidCourse, None)
READINGS = ((0, 1, 7), are_readings, errors.InvalidOperation, None)
INSTANT = ((9, 7), is_instant, errors.InvalidInstant, None)
FLOOR = ((1, 0), is_instant, errors.InvalidInstant, None)
COPY = copies.Copy("a", 1, (3, 1), 9)
SHELF = copies.Shelf((COPY, copies.Copy("b", 0, (4, 2), 20)))
HISTORY = deeds.History(DEEDS[0])
COPIES = (SHELF.copies, are_unlike_copies, errors.InvalidCopy, None)
ANY = ((1, 0), None, None, None)


def text(valid, most):
    return (valid, lambda value: type(value) is str and len(value) <= most, errors.ParseError, "spot")


CALLS = (
    (texts.write_plain, PLAIN), (texts.sealed, PLAIN), (texts.read_plain, text("i1;", 9000)),
    (texts.seal_of, text("i1;", 9000)), (texts.unsealed, text("3:i7;0392;", 9020)),
    (texts.parted, text("3:i7;0392;", 100000)),
    (deeds.done, PAIRS, DEED), (deeds.behind, DEEDS), (deeds.unlike_keys, PAIRS, PAIRS),
    (deeds.deed_between, PAIRS, PAIRS), (deeds.History, DEEDS), (HISTORY.at, number(1, 0, 2)),
    (HISTORY.value_at, number(1, 0, 2), KEY), (HISTORY.stretch, number(0, 0, 2), KEY),
    (HISTORY.moments_with, ({"a": 1, "b": None}, is_page, errors.InvalidValue, None)), (HISTORY.with_deed, DEED),
    (questions.question_size, ASKED), (questions.keys_of, ASKED), (questions.plain_answer, ASKED, PAIRS),
    (questions.page_of, ASKED, PAIRS),
    (questions.answer_of_page, ASKED, ({"c": 1, "a": 0, "b": None}, is_page_of_question, errors.InvalidValue, None)),
    (questions.span_of, ASKED), (questions.hangs_paper, ASKED, KEY), (questions.is_hangs_paper, ASKED, KEY, ANY),
    (clocks.is_course, SPREAD, MACHINES, ANY), (clocks.readings, SPREAD, MACHINES, COURSE),
    (clocks.joined, SPREAD, MACHINES, COURSE, COURSE), (clocks.beats_for, SPREAD, number(7)),
    (clocks.reach, SPREAD, number(0)), (clocks.clock_paper, SPREAD, READINGS),
    (clocks.is_clock_paper, SPREAD, READINGS, ANY), (clocks.fewest_beats, SPREAD, READINGS),
    (clocks.held_for, SPREAD, number(1)), (clocks.held_below, SPREAD, number(9), number(1, 0, 6)),
    (clocks.breaking_course, SPREAD, number(5, 0, 399), number(1, 0, 399)),
    (clocks.is_breaking_course, SPREAD, number(5, 0, 399), number(1, 0, 399), ANY),
    (copies.Copy, KEY, VALUE, ((3, 1), is_instant, errors.InvalidInstant, None), number(9, 3),
     ((4, 2), lambda value: value is None or is_instant(value), errors.InvalidInstant, None)),
    (COPY.is_true, number(1)), (COPY.does_cover, INSTANT), (COPY.ended, INSTANT),
    (copies.Shelf, (SHELF.copies, are_ascending_copies, errors.InvalidCopy, None)),
    (SHELF.kept, KEY), (SHELF.true_keys, number(1)),
    (SHELF.granted, KEY, VALUE, number(1), number(8), INSTANT, SPREAD), (SHELF.ended, KEY, INSTANT),
    (moments.stretch, COPIES, INSTANT), (moments.apart, COPIES, INSTANT), (moments.is_apart, COPIES, INSTANT, ANY),
    (moments.answer_stretch, COPIES, INSTANT, number(1, 0, 10 ** 6), FLOOR),
    (moments.refusal_paper, COPIES, INSTANT, number(1, 0, 10 ** 6), FLOOR),
    (moments.is_refusal_paper, COPIES, INSTANT, number(1, 0, 10 ** 6), FLOOR, ANY),
    (moments.joined_floor, INSTANT, FLOOR), (moments.is_in_stretch, INSTANT, FLOOR, INSTANT),
) + LENT_CALLS + RUN_CALLS
JUDGES = (
    texts.is_plain, deeds.is_key, deeds.is_value, deeds.is_pairs, deeds.is_deed, deeds.is_page, questions.is_question,
    questions.is_straight, copies.is_instant,
) + LENT_JUDGES + RUN_JUDGES
THINGS = (HISTORY, COPY, SHELF) + LENT_THINGS + RUN_THINGS


def wrong_values(parameter):
    """All odd values, and all near the valid one, that the parameter must refuse."""
    valid, is_valid = parameter[:2]
    return [value for value in ODD + list(mutants(valid)) if is_valid is not None and not is_valid(value)]


def kept_by(parameter, value):
    if parameter[3] is None:
        return None
    return (parameter[3], None if parameter[3] == "spot" else value)


class ArgumentsTest(unittest.TestCase):
    def test_the_valid_ones_are_taken_and_not_changed(self):
        for call, *parameters in CALLS:
            arguments = [parameter[0] for parameter in parameters]
            before = repr(arguments)
            first, again = call(*arguments), call(*arguments)
            self.assertEqual(repr(arguments), before, call)
            self.assertEqual(first, again, call)

    def test_each_wrong_one_is_refused(self):
        for call, *parameters in CALLS:
            arguments = [parameter[0] for parameter in parameters]
            for index, parameter in enumerate(parameters):
                for value in wrong_values(parameter):
                    told = arguments[:index] + [value] + arguments[index + 1:]
                    assert_raises(self, parameter[2], kept_by(parameter, value), call, *told)

    def test_the_first_wrong_one_is_told(self):
        for call, *parameters in CALLS:
            arguments = [parameter[0] for parameter in parameters]
            for late in range(len(parameters)):
                for early in range(late):
                    if parameters[late][1] is not None:
                        self.check_two(call, arguments, parameters, early, late)

    def check_two(self, call, arguments, parameters, early, late):
        for other in wrong_values(parameters[late])[:3]:
            for value in wrong_values(parameters[early])[-3:]:
                told = list(arguments)
                told[early], told[late] = value, other
                assert_raises(self, parameters[early][2], kept_by(parameters[early], value), call, *told)

    def test_wrong_values_are_not_changed(self):
        # Not the values in which one part stands again and again: to write them out takes very long.
        values = [value for value in ODD if not is_doubled(value)]
        before = repr(values)
        for call, *parameters in CALLS:
            for value in values:
                try:
                    call(*[value for _ in parameters])
                except OWN_ERRORS:
                    pass
        self.assertEqual(repr(values), before)

    def test_judges_take_every_value(self):
        for judge in JUDGES:
            for value in ODD:
                self.assertIs(type(judge(value)), bool, (judge, value))
        for call, *parameters in CALLS:
            if parameters and parameters[-1][1] is None:
                arguments = [parameter[0] for parameter in parameters[:-1]]
                for value in ODD:
                    self.assertIs(type(call(*arguments, value)), bool, (call, value))

    def test_judges_of_single_values(self):
        pairs = (
            (texts.is_plain, is_plain, PLAIN[0]), (deeds.is_key, is_key, "abc"), (deeds.is_pairs, is_pairs, PAIRS[0]),
            (deeds.is_value, lambda value: value is not None and is_told(value), 10 ** 12 - 1),
            (deeds.is_deed, is_deed, DEED[0]), (deeds.is_page, is_page, {"a": 1, "b": None}),
            (questions.is_question, is_question, QUESTION), (copies.is_instant, is_instant, (0, 1)),
        )
        for judge, reference, valid in pairs:
            self.assertTrue(judge(valid))
            for value in ODD + list(mutants(valid)):
                self.assertIs(judge(value), reference(value), (judge, value))


class ObjectsTest(unittest.TestCase):
    def test_equality_takes_every_value(self):
        for thing in THINGS:
            for value in ODD + list(THINGS):
                self.assertIs(thing == value, thing is value)
                self.assertIs(thing != value, thing is not value)

    def test_objects_are_not_iterated_over(self):
        for thing in THINGS:
            with self.assertRaises(TypeError):
                iter(thing)

    def test_methods_stand_in_the_body_of_their_class(self):
        told = {
            deeds.History: ("at", "value_at", "stretch", "moments_with", "with_deed", "__len__", "__eq__", "__str__"),
            copies.Copy: ("is_true", "does_cover", "ended", "__eq__", "__str__"),
            copies.Shelf: ("kept", "true_keys", "granted", "ended", "__len__", "__contains__", "__eq__"),
            **LENT_METHODS,
            **RUN_METHODS,
        }
        for kind, names in told.items():
            for name in names:
                self.assertIn(name, vars(kind))


if __name__ == "__main__":
    unittest.main()
