"""Trees and setups [0.12], [11.1], and books of what is lent [11.3] to [11.8]."""

import itertools
import random
import unittest

from helpers import ODD, assert_raises, is_int, mutants
from told_views import is_key
from wholemoment.errors import InvalidBook, InvalidKey, InvalidNumber, InvalidSetup
from wholemoment.lend.books import Book
from wholemoment.lend.setups import Setup, below, children_of, depth_of, is_tree, path_of

TREE = (0, 0, 1, 3)
BOOK = Book().granted(1, "a", 5, 20).granted(1, "a", 7, 18).granted(2, "a", 3, 9)
MOST = 10 ** 60 - 1


def is_told_tree(value):
    return type(value) is tuple and 1 <= len(value) <= 6 and all(is_int(told, 0, at) for at, told in enumerate(value))


def is_told_lent(value):
    if type(value) is not dict:
        return False
    for place, entry in value.items():
        if type(place) is not tuple or len(place) != 2 or not is_int(place[0], 1, 6) or not is_key(place[1]):
            return False
        if type(entry) is not tuple or len(entry) != 2 or not all(is_int(member, 0) for member in entry):
            return False
    return True


class TreeTest(unittest.TestCase):
    def test_examples(self):
        self.assertEqual([children_of(TREE, 0), path_of(TREE, 4), depth_of(TREE, 4), below(TREE, 1), is_tree((0, 2))],
                         [(1, 2), (3, 1, 0), 3, (3, 4), False])
        self.assertEqual(str(Setup(2, TREE, 9)), "setup of 4 caches, 1 readers")

    def test_what_a_tree_is(self):
        for size, right in ((0, False), (1, True), (6, True), (7, False)):
            self.assertIs(is_tree((0,) * size), right)
            self.assertIs(is_tree(tuple(range(size))), right)
        for value in ((1,), (0, 2), (0, -1), (0, True), (False,), [0], 0, None, (0, None), (0, 1, 3)):
            self.assertIs(is_tree(value), False, value)
        for value in ODD + list(mutants(TREE)):
            self.assertIs(is_tree(value), is_told_tree(value), value)

    def test_all_small_trees(self):
        for size in range(1, 6):
            for parents in itertools.product(*[range(index + 1) for index in range(size)]):
                above = {0: ()}
                for cache, parent in enumerate(parents, start=1):
                    above[cache] = (parent,) + above[parent]
                for machine in range(size + 1):
                    self.assertEqual(path_of(parents, machine), above[machine])
                    self.assertEqual(depth_of(parents, machine), len(above[machine]))
                    self.assertEqual(children_of(parents, machine), tuple(m for m in above if above[m][:1] == (machine,)))
                    self.assertEqual(below(parents, machine), tuple(m for m in above if machine in above[m]))
        self.assertEqual(path_of((0, 1, 2, 3, 4, 5), 6), (5, 4, 3, 2, 1, 0))

    def test_errors(self):
        for call in (children_of, path_of, depth_of, below):
            for parents in ((), (1,), (0,) * 7, [0], None):
                assert_raises(self, InvalidSetup, None, call, parents, None)
            for machine in (-1, 5, True, None, "1"):
                assert_raises(self, InvalidNumber, ("given", machine), call, TREE, machine)


class SetupTest(unittest.TestCase):
    def test_parts(self):
        setup = Setup(2, TREE, 9)
        self.assertEqual((setup.spread, setup.parents, setup.term, setup.span, setup.patience, setup.readers),
                         (2, TREE, 9, 0, 3, (1,)))
        self.assertEqual((setup.caches, setup.machines), (4, 5))
        other = Setup(6, (0,), 200, span=200, patience=20, readers=(1,) * 6)
        self.assertEqual((other.spread, other.parents, other.term, other.span, other.patience, other.readers, other.caches,
                          other.machines, str(other)), (6, (0,), 200, 200, 20, (1,) * 6, 1, 2, "setup of 1 caches, 6 readers"))

    def test_equality(self):
        setup = Setup(2, TREE, 9, span=1, patience=2, readers=(1, 4))
        self.assertEqual(setup, Setup(2, TREE, 9, span=1, patience=2, readers=(1, 4)))
        for other in (Setup(3, TREE, 9, span=1, patience=2, readers=(1, 4)), Setup(2, (0, 0, 1, 2), 9, span=1, patience=2, readers=(1, 4)),
                      Setup(2, TREE, 8, span=1, patience=2, readers=(1, 4)), Setup(2, TREE, 9, span=2, patience=2, readers=(1, 4)),
                      Setup(2, TREE, 9, span=1, patience=3, readers=(1, 4)), Setup(2, TREE, 9, span=1, patience=2, readers=(4, 1))):
            self.assertNotEqual(setup, other)
        for value in ODD:
            self.assertIs(setup == value, False)

    def check(self, right, *arguments, **more):
        if right:
            Setup(*arguments, **more)
        else:
            with self.assertRaises(InvalidSetup):
                Setup(*arguments, **more)

    def test_edges(self):
        for spread, right in ((0, False), (1, True), (6, True), (7, False), (True, False), (None, False)):
            self.check(right, spread, TREE, 9)
        for term, right in ((0, False), (1, True), (200, True), (201, False), (True, False), ("9", False)):
            self.check(right, 2, TREE, term)
        for span, right in ((-1, False), (0, True), (200, True), (201, False), (False, False), (None, False)):
            self.check(right, 2, TREE, 9, span=span)
        for patience, right in ((0, False), (1, True), (20, True), (21, False), (True, False)):
            self.check(right, 2, TREE, 9, patience=patience)
        for readers, right in (((), False), ((4,), True), ((1,) * 6, True), ((1,) * 7, False), ((0,), False), ((5,), False),
                               ((1, True), False), ([1], False), (1, False), (None, False)):
            self.check(right, 2, TREE, 9, readers=readers)
        for parents in ODD + list(mutants(TREE)):
            self.check(is_told_tree(parents), 2, parents, 9)
        with self.assertRaises(TypeError):
            Setup(2, TREE, 9, 0)


class BookTest(unittest.TestCase):
    def test_examples(self):
        self.assertEqual([BOOK.lent[(1, "a")], BOOK.holders("a", 9), BOOK.holders("a", 10)], [(7, 20), (1, 2), (1,)])
        self.assertEqual([BOOK.when_free(("a", "b")), BOOK.when_free(("c",))], [21, 0])
        self.assertEqual([BOOK.backed(1, "a", 6) == BOOK, len(BOOK.backed(1, "a", 7)), BOOK.swept(10).lent],
                         [True, 1, {(1, "a"): (7, 20)}])

    def test_parts(self):
        lent = {(2, "b"): (0, 1), (1, "z"): (5, 0), (2, "a"): (3, 3)}
        book = Book(lent)
        self.assertEqual(list(book.lent.items()), [((1, "z"), (5, 0)), ((2, "a"), (3, 3)), ((2, "b"), (0, 1))])
        self.assertEqual((len(book), len(Book()), Book().lent, Book(None), Book({})), (3, 0, {}, Book(), Book()))
        self.assertEqual(list(lent), [(2, "b"), (1, "z"), (2, "a")])
        lent[(3, "a")] = (1, 1)
        self.assertEqual(len(book), 3)
        self.assertEqual(book, Book().granted(1, "z", 5, 0).granted(2, "a", 3, 3).granted(2, "b", 0, 1))
        self.assertNotEqual(book, Book({**book.lent, (2, "b"): (0, 2)}))
        self.assertNotEqual(book, Book())
        for value in [(2, "a"), (1, "a"), (2, "z"), (True, "z"), [1, "z"], "z", (1,), ((1, "z"),)] + ODD:
            self.assertIs(value in book, type(value) is tuple and value in ((2, "a"), (1, "z")) and type(value[0]) is int, value)

    def test_wrong_books(self):
        for value in ODD + list(mutants({(1, "a"): (5, 7)})) + [{(1, "a"): [5, 7]}, {(7, "a"): (5, 7)}, {(0, "a"): (5, 7)},
                                                               {(True, "a"): (5, 7)}, {(1, "a"): (5, -1)}, {(1, "a"): (5,)}, {(1, "a"): (-1, 5)}]:
            if value is None or is_told_lent(value):
                self.assertEqual(Book(value).lent, value or {})
            else:
                assert_raises(self, InvalidBook, None, Book, value)

    def test_rows_of_grants_and_backs(self):
        rng = random.Random(1)
        for _ in range(200):
            book, told = Book(), {}
            for _ in range(20):
                child, key = rng.randrange(1, 4), rng.choice("ab")
                early, late = rng.randrange(10), rng.randrange(10)
                act = rng.randrange(8)
                before = dict(book.lent)
                elder = book
                if act < 5:
                    book = book.granted(child, key, early, late)
                    old = told.get((child, key), (early, late))
                    told[(child, key)] = (max(old[0], early), max(old[1], late))
                elif act < 7:
                    book = book.backed(child, key, early)
                    if told.get((child, key), (99,))[0] <= early:
                        del told[(child, key)]
                else:
                    book = book.swept(early)
                    told = {place: entry for place, entry in told.items() if entry[1] >= early}
                self.assertEqual(list(book.lent.items()), sorted(told.items()))
                self.assertEqual(elder.lent, before)
                self.check_holders(book, told)

    def check_holders(self, book, told):
        for reading in range(11):
            held = [(key, child) for (child, key), (_, end) in told.items() if end >= reading]
            for key in "abc":
                self.assertEqual(book.holders(key, reading), tuple(sorted(child for other, child in held if other == key)))
            self.assertEqual(book.held_keys(reading), tuple(sorted({key for key, _ in held})))
        for keys in ((), ("a",), ("b", "a"), ("c",), ("a", "a", "b", "c")):
            free = book.when_free(keys)
            self.assertFalse(any(book.holders(key, reading) for key in keys for reading in range(free, 20)))
            if free > 0:
                self.assertTrue(any(book.holders(key, free - 1) for key in keys))

    def test_many_keys_ascend(self):
        book = Book({(1 + index % 3, "k" + letter): (0, index) for index, letter in enumerate("hgfedcba")})
        self.assertEqual(book.held_keys(2), ("ka", "kb", "kc", "kd", "ke", "kf"))
        self.assertEqual(list(book.lent), sorted(book.lent))

    def test_the_sequence_of_grants_does_not_matter(self):
        grants = [(1, "a", 5, 9), (1, "a", 7, 8), (1, "a", 6, 6), (2, "a", 1, 1)]
        books = []
        for row in itertools.permutations(grants + grants[:1]):
            book = Book()
            for grant in row:
                book = book.granted(*grant)
            books.append(book)
        self.assertTrue(all(book == Book({(1, "a"): (7, 9), (2, "a"): (1, 1)}) for book in books))

    def test_backs_that_come_late(self):
        book = Book({(1, "a"): (7, 9)})
        self.assertEqual([book.backed(1, "a", stamp).lent for stamp in (0, 6, 7, 8)], [book.lent, book.lent, {}, {}])
        self.assertEqual(book.backed(2, "a", 99), book)
        self.assertEqual(book.backed(1, "b", 99), book)

    def test_swept_books_have_the_same_holders(self):
        book = Book({(1, "a"): (0, 4), (2, "a"): (0, 5), (3, "a"): (0, 6)})
        self.assertEqual(book.swept(5).lent, {(2, "a"): (0, 5), (3, "a"): (0, 6)})
        for reading in range(5, 9):
            self.assertEqual(book.swept(5).holders("a", reading), book.holders("a", reading))
            late, swept = book.granted(1, "a", 3, 5), book.swept(5).granted(1, "a", 3, 5)
            self.assertEqual(late.holders("a", reading), swept.holders("a", reading))

    def test_errors(self):
        for child in (0, 7, True, None):
            assert_raises(self, InvalidNumber, ("given", child), BOOK.granted, child, None, None, None)
            assert_raises(self, InvalidNumber, ("given", child), BOOK.backed, child, None, None)
        assert_raises(self, InvalidKey, None, BOOK.granted, 6, "A", None, None)
        assert_raises(self, InvalidKey, None, BOOK.backed, 6, "A", None)
        for number in (-1, True, None, MOST + 1):
            assert_raises(self, InvalidNumber, ("given", number), BOOK.granted, 1, "a", number, "x")
            assert_raises(self, InvalidNumber, ("given", number), BOOK.granted, 1, "a", 0, number)
            assert_raises(self, InvalidNumber, ("given", number), BOOK.backed, 1, "a", number)
            assert_raises(self, InvalidNumber, ("given", number), BOOK.swept, number)
            assert_raises(self, InvalidNumber, ("given", number), BOOK.holders, "a", number)
            assert_raises(self, InvalidNumber, ("given", number), BOOK.held_keys, number)
        assert_raises(self, InvalidKey, None, BOOK.holders, "", None)
        for keys in (["a"], "a", ("A",), ("a", None), None, (1,)):
            assert_raises(self, InvalidKey, None, BOOK.when_free, keys)
        self.assertEqual(BOOK.granted(6, "a", MOST, MOST).when_free(("a",)), MOST + 1)


class NotTrueTest(unittest.TestCase):
    """[11.8]: what is not true has an example."""

    def test_grants_and_backs_cannot_change_places(self):
        self.assertNotEqual(Book().granted(1, "a", 3, 9).backed(1, "a", 3), Book().backed(1, "a", 3).granted(1, "a", 3, 9))

    def test_a_back_leaves_a_child_its_other_keys(self):
        book = Book().granted(1, "a", 3, 9).granted(1, "b", 3, 9)
        self.assertEqual(book.backed(1, "a", 10 ** 9).lent, {(1, "b"): (3, 9)})


if __name__ == "__main__":
    unittest.main()
