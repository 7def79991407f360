"""Deeds and their history [0.8], [0.9], [2.1] to [2.5]."""

import random
import unittest

from helpers import assert_raises, is_int
from wholemoment.errors import InvalidDeed, InvalidKey, InvalidNumber, InvalidValue, TooMany
from wholemoment.store import deeds
from wholemoment.store.deeds import (
    History, behind, deed_between, done, is_deed, is_key, is_page, is_pairs, is_value, unlike_keys,
)

DEEDS = ((("a", 1), ("b", 2)), (("a", None),), (("a", 1), ("c", -5)))
LETTERS = "abcdefghijklmnopqrstuvwxyz"


def key_number(number):
    """One of many keys, ascending with their numbers."""
    return "".join(LETTERS[number // 26 ** place % 26] for place in (3, 2, 1, 0))


def some_deed(rng, keys="abcd"):
    chosen = sorted(rng.sample(keys, rng.randrange(1, min(6, len(keys)) + 1)))
    return tuple((key, rng.choice((None, 0, 1, 2))) for key in chosen)


def some_deeds(rng, many):
    return tuple(some_deed(rng) for _ in range(many))


def state_behind(row):
    state = {}
    for deed in row:
        state.update(deed)
    return {key: state[key] for key in sorted(state) if state[key] is not None}


class FormsTest(unittest.TestCase):
    def test_constants(self):
        self.assertEqual((deeds.MOST_KEY, deeds.MOST_VALUE, deeds.MOST_SET), (8, 999999999999, 6))
        self.assertEqual((deeds.MOST_KEYS, deeds.MOST_DEEDS, deeds.MOST_PAGE), (10000, 1500, 40))

    def test_keys(self):
        for value in ("a", "z", "abcdefgh", "zzzzzzzz"):
            self.assertIs(is_key(value), True)
        for value in ("", "abcdefghi", "A", "a1", "a b", "a\n", "\u00e9", 1, None, ("a",), b"a"):
            self.assertIs(is_key(value), False, value)

    def test_values(self):
        for value in (0, 1, -1, 10 ** 12 - 1, 1 - 10 ** 12):
            self.assertIs(is_value(value), True)
        for value in (10 ** 12, -(10 ** 12), True, False, None, "1", (1,)):
            self.assertIs(is_value(value), False, value)

    def test_pairs(self):
        most = {key_number(number): number for number in range(10000)}
        for value in ({}, {"a": 0}, {"b": 1, "a": 2}, most):
            self.assertIs(is_pairs(value), True)
        for value in ({"a": None}, {"a": True}, {"A": 1}, {1: 1}, {"a": 10 ** 12}, [("a", 1)], None,
                      {**most, "a": 1}):
            self.assertIs(is_pairs(value), False)

    def test_deeds(self):
        six = tuple((key, None) for key in "abcdef")
        for value in ((("a", 1),), (("a", None), ("b", 0)), six):
            self.assertIs(is_deed(value), True)
        for value in ((), six + (("g", 1),), (("b", 1), ("a", 1)), (("a", 1), ("a", 1)), (("a", True),), (("a", 1, 2),),
                      (("a",),), [("a", 1)], (["a", 1],), (("a", 10 ** 12),), (("", 1),), ("ab", "cd"), {"a": 1}):
            self.assertIs(is_deed(value), False, value)

    def test_pages(self):
        most = {key_number(number): None for number in range(40)}
        for value in ({}, {"a": None, "b": 1}, most):
            self.assertIs(is_page(value), True)
        for value in ({**most, "a": 1}, {"a": False}, {"A": None}, {"a": "1"}, (), [], (("a", 1),)):
            self.assertIs(is_page(value), False)


class DoneTest(unittest.TestCase):
    def test_examples(self):
        self.assertEqual(behind(DEEDS), {"a": 1, "b": 2, "c": -5})
        self.assertEqual(done({"a": 1}, (("a", None), ("b", 0))), {"b": 0})
        self.assertEqual(unlike_keys({"a": 1, "b": 2}, {"b": 3}), ("a", "b"))
        self.assertEqual(deed_between({"a": 1, "b": 2}, {"b": 3}), (("a", None), ("b", 3)))

    def test_keys_ascend_whatever_was_passed(self):
        self.assertEqual(list(done({"z": 1, "b": 2, "m": 3}, (("a", 5), ("n", 1)))), ["a", "b", "m", "n", "z"])
        self.assertEqual(list(behind(((("z", 1),), (("a", 1),), (("m", 1),)))), ["a", "m", "z"])
        self.assertEqual(list(History(((("z", 1),), (("a", 1),))).at(2)), ["a", "z"])

    def test_nothing_is_changed(self):
        pairs, one, other = {"b": 1, "a": 2}, {"a": 1}, {"b": 1}
        done(pairs, (("a", None), ("c", 1)))
        unlike_keys(one, other)
        deed_between(one, other)
        self.assertEqual([list(pairs.items()), one, other], [[("b", 1), ("a", 2)], {"a": 1}, {"b": 1}])
        history = History(DEEDS)
        history.at(3)["a"] = 99
        behind(DEEDS)["a"] = 99
        self.assertEqual(history.at(3), {"a": 1, "b": 2, "c": -5})

    def test_2_2(self):
        rng = random.Random(1)
        for _ in range(300):
            pairs = state_behind(some_deeds(rng, 3))
            one, other = some_deed(rng, "abc"), some_deed(rng, "defg")
            same = tuple((key, rng.choice((None, 3))) for key, _ in one)
            self.assertEqual(done(done(pairs, one), one), done(pairs, one))
            self.assertEqual(done(done(pairs, one), other), done(done(pairs, other), one))
            self.assertEqual(done(done(pairs, one), same), done(pairs, same))
            behind_it = done(pairs, one)
            for key in "abcdefg":
                self.assertEqual(behind_it.get(key), {**pairs, **dict(one)}.get(key))

    def test_too_many_keys(self):
        most = {key_number(number): 1 for number in range(10000)}
        assert_raises(self, TooMany, ("limit", 10000), done, most, (("a", 1),))
        self.assertEqual(len(done(most, (("a", 1), ("aaaa", None)))), 10000)
        self.assertEqual(len(done(most, (("a", None),))), 10000)
        self.assertEqual(len(done(most, (("aaaa", 7),))), 10000)
        assert_raises(self, InvalidDeed, None, done, most, (("a", True),))
        assert_raises(self, InvalidValue, None, done, {**most, "a": 1}, (("aaaa", None),))

    def test_deeds_between(self):
        rng = random.Random(2)
        for _ in range(300):
            one, other = state_behind(some_deeds(rng, 3)), state_behind(some_deeds(rng, 3))
            keys = tuple(key for key in "abcd" if one.get(key, "no") != other.get(key, "no"))
            self.assertEqual(unlike_keys(one, other), keys)
            deed = deed_between(one, other)
            if one == other:
                self.assertIsNone(deed)
            else:
                self.assertTrue(is_deed(deed))
                self.assertEqual(done(one, deed), other)
                self.assertEqual(len(deed), len(keys))
        six, seven = {key: 0 for key in "abcdef"}, {key: 0 for key in "abcdefg"}
        self.assertEqual(deed_between({}, six), tuple((key, 0) for key in "abcdef"))
        assert_raises(self, TooMany, ("limit", 6), deed_between, {}, seven)
        assert_raises(self, TooMany, ("limit", 6), deed_between, seven, {})
        self.assertEqual(unlike_keys({}, seven), tuple("abcdefg"))
        self.assertEqual(deed_between(six, {**six, "a": 5}), (("a", 5),))


class HistoryTest(unittest.TestCase):
    def test_examples(self):
        history = History(DEEDS)
        self.assertEqual([history.at(2), history.value_at(1, "b"), history.value_at(2, "a")], [{"b": 2}, 2, None])
        self.assertEqual([history.stretch(2, "b"), str(history)], [(1, 3), "history of 3 deeds, 3 keys"])
        self.assertEqual(history.moments_with({"a": 1}), ((1, 1), (3, 3)))
        self.assertEqual(history.moments_with({"b": 2, "a": None}), ((2, 2),))
        self.assertEqual(history.moments_with({}), ((0, 3),))
        self.assertEqual(history.moments_with({"a": 1, "c": None}), ((1, 1),))
        assert_raises(self, InvalidNumber, ("given", 4), history.at, 4)

    def test_parts(self):
        history = History(DEEDS)
        self.assertEqual((history.deeds, len(history), history), (DEEDS, 3, History(DEEDS)))
        self.assertNotEqual(history, History(DEEDS[:2]))
        self.assertEqual(str(History(())), "history of 0 deeds, 0 keys")
        self.assertEqual(str(History(DEEDS[:2])), "history of 2 deeds, 1 keys")
        self.assertEqual(history.at(0), {})
        self.assertEqual(History(()).moments_with({"a": None}), ((0, 0),))
        self.assertEqual(History(()).moments_with({"a": 1}), ())

    def test_moments(self):
        rng = random.Random(3)
        for _ in range(100):
            row = some_deeds(rng, rng.randrange(9))
            history = History(row)
            states = [state_behind(row[:moment]) for moment in range(len(row) + 1)]
            for moment, state in enumerate(states):
                self.assertEqual(history.at(moment), state)
                for key in "abcd":
                    self.assertEqual(history.value_at(moment, key), state.get(key))
                    first, last = history.stretch(moment, key)
                    self.assertTrue(0 <= first <= moment <= last <= len(row))
                    for other, told in enumerate(states):
                        if first <= other <= last:
                            self.assertEqual(told.get(key), state.get(key))
                        elif other in (first - 1, last + 1):
                            self.assertNotEqual(told.get(key), state.get(key))
            for moment, deed in enumerate(row):
                changed = tuple(key for key, value in deed if states[moment].get(key) != value)
                self.assertEqual(unlike_keys(states[moment], states[moment + 1]), changed)

    def test_stretches_of_pages(self):
        rng = random.Random(4)
        for _ in range(300):
            row = some_deeds(rng, rng.randrange(9))
            history = History(row)
            states = [state_behind(row[:moment]) for moment in range(len(row) + 1)]
            page = dict(some_deed(rng))
            stretches = history.moments_with(page)
            stood = [moment for first, last in stretches for moment in range(first, last + 1)]
            self.assertEqual(stood, [moment for moment, state in enumerate(states)
                                     if all(state.get(key) == value for key, value in page.items())])
            for (_, last), (first, _) in zip(stretches, stretches[1:]):
                self.assertGreater(first, last + 1)
            self.assertTrue(all(is_int(end, 0, len(row)) for ends in stretches for end in ends))

    def test_a_page_of_two_pages_stands_where_both_stand(self):
        rng = random.Random(5)
        for _ in range(200):
            history = History(some_deeds(rng, 6))
            one, other = dict(some_deed(rng, "ab")), dict(some_deed(rng, "cd"))
            places = [{moment for first, last in history.moments_with(page) for moment in range(first, last + 1)}
                      for page in (one, other, {**one, **other})]
            self.assertEqual(places[2], places[0] & places[1])

    def test_errors(self):
        history = History(DEEDS)
        for moment in (-1, 4, True, None, "1", 10 ** 60, (1,)):
            assert_raises(self, InvalidNumber, ("given", moment), history.at, moment)
            assert_raises(self, InvalidNumber, ("given", moment), history.value_at, moment, "A")
            assert_raises(self, InvalidNumber, ("given", moment), history.stretch, moment, "A")
        assert_raises(self, InvalidKey, None, history.value_at, 3, "A")
        assert_raises(self, InvalidKey, None, history.stretch, 3, None)
        assert_raises(self, InvalidValue, None, history.moments_with, {"a": True})
        assert_raises(self, InvalidValue, None, history.moments_with, {key_number(k): None for k in range(41)})
        self.assertEqual(history.moments_with({key_number(k): None for k in range(40)}), ((0, 3),))

    def test_1500_deeds(self):
        row = tuple((("a", number),) for number in range(1500))
        history = History(row)
        self.assertEqual([len(history), history.at(1500), behind(row)], [1500, {"a": 1499}, {"a": 1499}])
        assert_raises(self, TooMany, ("limit", 1500), history.with_deed, (("a", 1),))
        assert_raises(self, InvalidDeed, None, history.with_deed, (("a", True),))
        assert_raises(self, InvalidDeed, None, History, row + row[:1])
        assert_raises(self, InvalidDeed, None, behind, row + row[:1])
        self.assertEqual(History(row[:-1]).with_deed(row[-1]), history)

    def test_with_deed(self):
        rng = random.Random(6)
        history, row = History(()), ()
        for _ in range(40):
            deed = some_deed(rng)
            longer = history.with_deed(deed)
            self.assertEqual((history.deeds, len(history)), (row, len(row)))
            row += (deed,)
            self.assertEqual(longer, History(row))
            history = longer
        self.assertEqual(history.at(40), state_behind(row))


class NotTrueTest(unittest.TestCase):
    """[2.5]: what is not true has an example."""

    def test_keys_that_stand_one_by_one(self):
        history = History(((("a", 1),), (("a", None), ("b", 1))))
        self.assertTrue(history.moments_with({"a": 1}) and history.moments_with({"b": 1}))
        self.assertEqual(history.moments_with({"a": 1, "b": 1}), ())

    def test_values_at_two_moments(self):
        self.assertEqual([History(DEEDS).value_at(moment, "a") for moment in (1, 2, 3)], [1, None, 1])

    def test_equal_pairs_of_unlike_deeds(self):
        history = History(((("a", 1),), (("a", 2),), (("a", 1), ("b", None))))
        self.assertEqual(history.at(1), history.at(3))
        self.assertNotEqual(history.deeds[0], history.deeds[2])


if __name__ == "__main__":
    unittest.main()
