"""Letters and rows of handings [0.13], [10.1] to [10.6]."""

import itertools
import random
import unittest

from helpers import ODD, assert_raises, is_int, mutants
from told_views import is_key, is_told
from wholemoment.errors import InvalidLetter, InvalidNumber, InvalidOperation
from wholemoment.net.letters import (
    LETTER_WORDS, MAX_HANDED, Bag, are_exchanges, doubles, exchanges, goal, is_letter, lost, sender, turned,
)

ASK, GRANT = ("ask", 2, 1, "a", 5), ("grant", 1, 2, "a", None, 5, 12)
RECALL, BACK = ("recall", 0, 6, "b"), ("back", 6, 0, "b", 0)
DEED, DONE = ("deed", 0, 1, (("a", 7),)), ("done", 3, 1)
BAG = Bag((ASK, GRANT, ("recall", 1, 2, "a"), DEED))
MOST = 10 ** 60 - 1


def is_told_letter(value):
    """What a letter is, told anew here."""
    if type(value) is not tuple or not value or value[0] not in ("ask", "grant", "recall", "back", "deed", "done"):
        return False
    sizes = {"ask": 5, "grant": 7, "recall": 4, "back": 5, "deed": 4, "done": 3}
    if len(value) != sizes[value[0]]:
        return False
    if value[0] in ("deed", "done"):
        if not is_int(value[1], 0, 5) or not is_int(value[2], 1):
            return False
        return value[0] == "done" or is_told_deed(value[3])
    word, early, late, key = value[:4]
    if not is_int(early, 0, 6) or not is_int(late, 0, 6) or not is_key(key) or early == late:
        return False
    if (early < late) != (word in ("grant", "recall")):
        return False
    if word == "grant":
        return is_told(value[4]) and is_int(value[5], 0) and is_int(value[6], 0, 200)
    return word == "recall" or is_int(value[4], 0)


def is_told_deed(value):
    if type(value) is not tuple or not 1 <= len(value) <= 6:
        return False
    if not all(type(pair) is tuple and len(pair) == 2 and is_key(pair[0]) and is_told(pair[1]) for pair in value):
        return False
    keys = [key for key, _ in value]
    return keys == sorted(set(keys))


def bag_of(many):
    return Bag((ASK,) * many)


def firsts(row):
    return [number for index, number in enumerate(row) if number not in row[:index]]


def turns(row):
    told = firsts(row)
    return sorted((late, early) for at, early in enumerate(told) for late in told[at + 1:] if late < early)


def do_sort(row, value):
    """Whether the exchanges, done one behind the other, bring the first handings into sequence."""
    told = firsts(row)
    for at in value:
        told[at], told[at + 1] = told[at + 1], told[at]
    return told == sorted(told)


class LetterTest(unittest.TestCase):
    def test_examples(self):
        self.assertEqual([is_letter(ASK), is_letter(("ask", 1, 2, "a", 5)), is_letter(("grant", 1, 2, "a", None, 5, 201))],
                         [True, False, False])
        self.assertEqual([sender(ASK), goal(("done", 3, 1))], [("machine", 2), ("reader", 3)])
        self.assertEqual((LETTER_WORDS, MAX_HANDED), (("ask", "grant", "recall", "back", "deed", "done"), 2000))

    def test_between_all_machines(self):
        for early, late in itertools.product(range(-1, 9), repeat=2):
            within = 0 <= early <= 6 and 0 <= late <= 6
            for letter in (("ask", early, late, "a", 0), ("back", early, late, "a", MOST)):
                self.assertIs(is_letter(letter), within and early > late)
            for letter in (("grant", early, late, "a", 1, 0, 0), ("recall", early, late, "a")):
                self.assertIs(is_letter(letter), within and early < late)

    def test_edges(self):
        for length, right in ((-1, False), (0, True), (200, True), (201, False), (True, False), (None, False)):
            self.assertIs(is_letter(GRANT[:6] + (length,)), right)
        for reading, right in ((-1, False), (0, True), (MOST, True), (MOST + 1, False), (False, False)):
            self.assertIs(is_letter(ASK[:4] + (reading,)), right)
            self.assertIs(is_letter(BACK[:4] + (reading,)), right)
            self.assertIs(is_letter(GRANT[:5] + (reading, 0)), right)
        for reader, number, right in ((0, 1, True), (5, MOST, True), (6, 1, False), (-1, 1, False), (0, 0, False), (True, 1, False)):
            self.assertIs(is_letter(("done", reader, number)), right)
            self.assertIs(is_letter(("deed", reader, number, (("a", None),))), right)
        for value in (0, None, -(10 ** 12 - 1), 10 ** 12 - 1):
            self.assertIs(is_letter(GRANT[:4] + (value, 0, 0)), True)
        self.assertIs(is_letter(GRANT[:4] + (10 ** 12, 0, 0)), False)

    def test_values_near_letters(self):
        for value in ODD:
            self.assertIs(is_letter(value), False)
        for letter in (ASK, GRANT, RECALL, BACK, DEED, DONE):
            self.assertIs(is_letter(letter), True)
            near = list(mutants(letter)) + [(word,) + letter[1:] for word in LETTER_WORDS]
            for value in near:
                self.assertIs(is_letter(value), is_told_letter(value), value)

    def test_senders_and_goals(self):
        rows = ((ASK, ("machine", 2), ("machine", 1)), (GRANT, ("machine", 1), ("machine", 2)),
                (RECALL, ("machine", 0), ("machine", 6)), (BACK, ("machine", 6), ("machine", 0)),
                (DEED, ("reader", 0), ("machine", 0)), (DONE, ("machine", 0), ("reader", 3)))
        for letter, early, late in rows:
            self.assertEqual((sender(letter), goal(letter)), (early, late))
        for call in (sender, goal):
            for value in (None, ASK[:4], ["ask", 2, 1, "a", 5]):
                assert_raises(self, InvalidLetter, None, call, value)


class BagTest(unittest.TestCase):
    def test_examples(self):
        self.assertEqual([BAG.letter(1), BAG.to_machine(2), BAG.to_machine(0), len(BAG.sent((ASK,)))], [GRANT, (1, 2), (3,), 5])
        row = (2, 0, 2, 1)
        self.assertEqual([lost(BAG, row), doubles(BAG, row), turned(BAG, row)], [(3,), {2: 1}, ((0, 2), (1, 2))])
        self.assertEqual([exchanges(BAG, (0, 2, 1)), are_exchanges(BAG, row, (0, 1))], [(1,), True])

    def test_parts(self):
        letters = (ASK, DONE, BACK, ("done", 0, 2), DEED, ("recall", 1, 2, "a"), DONE)
        bag = Bag(letters)
        self.assertEqual((bag.letters, len(bag), str(bag)), (letters, 7, "bag of 7 letters"))
        self.assertEqual([bag.to_machine(number) for number in range(7)], [(2, 4), (0,), (5,), (), (), (), ()])
        self.assertEqual([bag.to_reader(number) for number in range(6)], [(3,), (), (), (1, 6), (), ()])
        self.assertEqual([bag.letter(number) for number in range(7)], list(letters))
        self.assertEqual(bag, Bag(letters[:3]).sent(letters[3:]))
        self.assertEqual(bag.sent(()), bag)
        self.assertNotEqual(bag, Bag(letters[::-1]))
        self.assertNotEqual(bag, bag.sent((ASK,)))
        self.assertEqual((Bag().letters, len(Bag())), ((), 0))
        self.assertEqual(bag.letters, letters)

    def test_errors(self):
        for value in ([ASK], ASK, (ASK, None), None, (ASK[:4],)):
            assert_raises(self, InvalidLetter, None, Bag, value)
            assert_raises(self, InvalidLetter, None, BAG.sent, value)
        for number in (-1, 4, True, None, "0"):
            assert_raises(self, InvalidNumber, ("given", number), BAG.letter, number)
        assert_raises(self, InvalidNumber, ("given", 0), Bag().letter, 0)
        for number in (-1, 7, False, None):
            assert_raises(self, InvalidNumber, ("given", number), BAG.to_machine, number)
        for number in (-1, 6, False, None):
            assert_raises(self, InvalidNumber, ("given", number), BAG.to_reader, number)


class RowTest(unittest.TestCase):
    def test_rows(self):
        rng = random.Random(1)
        for _ in range(300):
            many = rng.randrange(8)
            bag = bag_of(many)
            row = tuple(rng.randrange(many) for _ in range(rng.randrange(12))) if many else ()
            self.assertEqual(lost(bag, row), tuple(number for number in range(many) if number not in row))
            told = sorted((number, row.count(number) - 1) for number in set(row) if row.count(number) > 1)
            self.assertEqual(list(doubles(bag, row).items()), told)
            self.assertEqual(list(turned(bag, row)), turns(row))
            found = exchanges(bag, row)
            self.assertTrue(do_sort(row, found))
            self.assertEqual(len(found), len(turns(row)))
            self.assertIs(are_exchanges(bag, row, found), True)

    def test_all_exchanges_of_short_rows(self):
        for row in itertools.chain(*[itertools.permutations(range(size)) for size in range(5)]):
            bag, fewest = bag_of(4), len(turns(row))
            size = len(row)
            for many in range(fewest + 2):
                for value in itertools.product(range(max(0, size - 1)), repeat=many) if many < 5 else ():
                    self.assertIs(are_exchanges(bag, row, value), many == fewest and do_sort(row, value))

    def test_values_near_exchanges(self):
        row = (3, 1, 3, 0, 2, 1)
        found = exchanges(BAG, row)
        for value in ODD + list(mutants(found)):
            right = (type(value) is tuple and len(value) == len(turns(row)) and all(is_int(at, 0, 2) for at in value)
                     and do_sort(row, value))
            self.assertIs(are_exchanges(BAG, row, value), right, value)
        self.assertIs(are_exchanges(bag_of(3), (0, 2, 1), (1,)), True)
        self.assertIs(are_exchanges(bag_of(3), (0, 2, 1), (True,)), False)
        self.assertIs(are_exchanges(bag_of(3), (1, 0), (-1,)), False)
        self.assertIs(are_exchanges(bag_of(3), (1, 0), (1,)), False)
        self.assertIs(are_exchanges(bag_of(0), (), ()), True)
        self.assertIs(are_exchanges(bag_of(0), (), (0,)), False)

    def test_long_rows(self):
        bag = bag_of(2000)
        row = tuple(range(2000))
        self.assertEqual((lost(bag, row), doubles(bag, row), turned(bag, row), exchanges(bag, row)), ((), {}, (), ()))
        back = tuple(range(700, 0, -1)) + (5,) * 1300
        self.assertEqual(doubles(bag, back), {5: 1300})
        self.assertEqual(len(turned(bag, back)), 700 * 699 // 2)
        self.assertIs(are_exchanges(bag, back, exchanges(bag, back)), True)
        for call in (lost, doubles, turned, exchanges):
            assert_raises(self, InvalidOperation, None, call, bag, row + (0,))

    def test_errors(self):
        for call, more in ((lost, ()), (doubles, ()), (turned, ()), (exchanges, ()), (are_exchanges, (None,))):
            for bag in (None, BAG.letters, 5):
                assert_raises(self, InvalidOperation, None, call, bag, (0,), *more)
            for row in ([0], (4,), (-1,), (True,), (None,), None, 0, ("0",)):
                assert_raises(self, InvalidOperation, None, call, BAG, row, *more)


class NotTrueTest(unittest.TestCase):
    """[10.6]: what is not true has an example."""

    def test_a_row_without_turned_pairs_need_not_ascend(self):
        self.assertEqual(turned(BAG, (0, 1, 0)), ())

    def test_a_row_without_turned_pairs_can_have_lost_letters(self):
        self.assertEqual((turned(BAG, (1,)), lost(BAG, (1,))), ((), (0, 2, 3)))


if __name__ == "__main__":
    unittest.main()
