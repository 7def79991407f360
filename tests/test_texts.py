"""Plain values, texts, seals [1.1] to [1.7]."""

import functools
import itertools
import random
import unittest

from helpers import assert_raises, nested, the_error
from wholemoment.base import texts
from wholemoment.base.texts import is_plain, parted, read_plain, seal_of, sealed, unsealed, write_plain
from wholemoment.errors import InvalidValue, ParseError, TooMany

SIGNS = "abcdefghijklmnopqrstuvwxyz0123456789 .:;,-"
FEW = "nist012:;-"


def some_value(rng, deep=10):
    kind = rng.randrange(9 if deep else 6)
    if kind == 0:
        return None
    if kind < 3:
        return rng.choice((0, 1, -1, 7, 10, -35, 10 ** 59, 10 ** 60 - 1, 1 - 10 ** 60, rng.randrange(-999, 1000)))
    if kind < 6:
        return "".join(rng.choice(SIGNS) for _ in range(rng.choice((0, 1, 2, 5, 9, 10, 11))))
    return tuple(some_value(rng, deep - 1) for _ in range(rng.randrange(4)))


def short_texts(length, deep):
    """All texts of plain values with so many signs that have none but a few signs."""
    found = ["n"] if length == 1 else []
    for figures in range(1, length - 1):
        if length == figures + 2:
            found += [f"i{told};" for told in numerals("012", figures)]
        if length == figures + 3:
            found += [f"i-{told};" for told in numerals("012", figures) if told != "0"]
    for many in range(length):
        head = f"{many}:"
        if 1 + len(head) + many == length:
            found += ["s" + head + "".join(signs) for signs in itertools.product(FEW, repeat=many)]
        if deep:
            found += ["t" + head + row for row in short_rows(length - 1 - len(head), many, deep - 1)]
    return found


def numerals(figures, many):
    return [told for told in map("".join, itertools.product(figures, repeat=many)) if told == "0" or told[0] != "0"]


def short_rows(length, many, deep):
    if many == 0:
        return [""] if length == 0 else []
    return [first + rest for one in range(1, length + 1) for first in short_texts(one, deep)
            for rest in short_rows(length - one, many - 1, deep)]


def lengths_of_texts(deep, most):
    """Which lengths the texts of plain values have, told anew: by tuples of so many members at most so deep."""
    found = {1} | set(range(3, 64)) | {1 + len(str(k)) + 1 + k for k in range(201)}
    plain = set(found)
    for _ in range(deep):
        sums, inner = {0}, set(found)
        found = plain | {3}
        for members in range(1, most):
            sums = {one + more for one in sums for more in inner if one + more <= most}
            found |= {1 + len(str(members)) + 1 + total for total in sums}
            if not sums:
                break
    return {length for length in found if length <= most}


class PlainTest(unittest.TestCase):
    def test_constants(self):
        self.assertEqual((texts.MOST_TEXT, texts.MOST_STRING, texts.MOST_DEEP, texts.SEAL), (9000, 200, 10, 9973))

    def test_examples(self):
        self.assertEqual(write_plain((1, None, "ab")), "t3:i1;ns2:ab")
        self.assertEqual(write_plain(()), "t0:")
        self.assertEqual(read_plain("t2:i-7;s0:"), (-7, ""))
        self.assertIs(is_plain("A"), False)
        self.assertIs(is_plain((True,)), False)
        self.assertEqual([seal_of("i7;"), sealed(7)], ["0392", "3:i7;0392;"])
        self.assertEqual([unsealed("3:i7;0392;"), unsealed("3:i7;03"), unsealed("3:i8;0392;")],
                         [("whole", 7), ("torn",), ("wrong",)])
        self.assertEqual(parted("3:i7;0392;1:n0110;3:i"), ((7, None), 18))
        assert_raises(self, ParseError, ("spot", 8), read_plain, "t2:i1;i02;")
        assert_raises(self, ParseError, ("spot", 6), read_plain, "t2:i1;")

    def test_edges_of_plain_values(self):
        for value in (10 ** 60 - 1, 1 - 10 ** 60, "x" * 200, SIGNS, nested(tuple, 10), ((),) * 3, (None,) * 9001):
            self.assertIs(is_plain(value), True, value)
        for value in (10 ** 60, -(10 ** 60), "x" * 201, nested(tuple, 11), True, False, (0, True), [], {}, "a_b", "a\n"):
            self.assertIs(is_plain(value), False, value)
        for sign in map(chr, range(32, 127)):
            self.assertIs(is_plain(sign), sign in SIGNS, sign)

    def test_tuples_with_a_member_ten_deep(self):
        inner = nested(tuple, 9)
        self.assertTrue(is_plain((1, inner, "a")))
        self.assertFalse(is_plain((1, (inner, 0), "a")))
        self.assertEqual(read_plain(write_plain((1, inner, "a"))), (1, inner, "a"))
        assert_raises(self, InvalidValue, None, write_plain, (1, (inner, 0), "a"))

    def test_texts(self):
        pairs = ((None, "n"), (0, "i0;"), (-12, "i-12;"), ("", "s0:"), (":;n", "s3::;n"), ((None,) * 10, "t10:nnnnnnnnnn"),
                 (("a", (1,)), "t2:s1:at1:i1;"), ("x" * 200, "s200:" + "x" * 200), (10 ** 59, "i1" + "0" * 59 + ";"))
        for value, text in pairs:
            self.assertEqual(write_plain(value), text)
            self.assertEqual(read_plain(text), value)

    def test_texts_of_9000_signs(self):
        exact = (None,) * 8994
        self.assertEqual(len(write_plain(exact)), 9000)
        self.assertEqual(read_plain(write_plain(exact)), exact)
        assert_raises(self, TooMany, ("limit", 9000), write_plain, exact + (None,))
        assert_raises(self, TooMany, ("limit", 9000), sealed, exact + (None,))
        assert_raises(self, InvalidValue, None, write_plain, exact + (True,))
        assert_raises(self, ParseError, ("spot", None), read_plain, write_plain(exact) + "n")
        assert_raises(self, ParseError, ("spot", None), seal_of, "n" * 9001)
        self.assertEqual(len(seal_of("n" * 9000)), 4)


class ReadingTest(unittest.TestCase):
    def test_back_and_apart(self):
        rng = random.Random(1)
        seen = {}
        for _ in range(3000):
            value = some_value(rng)
            text = write_plain(value)
            self.assertEqual(repr(read_plain(text)), repr(value))
            self.assertEqual(seen.setdefault(text, repr(value)), repr(value))

    def test_no_text_begins_another_one(self):
        rng = random.Random(2)
        for _ in range(300):
            text = write_plain(some_value(rng, 3))
            for end in range(len(text)):
                assert_raises(self, ParseError, ("spot", end), read_plain, text[:end])
            assert_raises(self, ParseError, ("spot", len(text)), read_plain, text + rng.choice("nist0:"))

    def test_spots(self):
        deep = "t1:" * 10
        spots = (
            ("", 0), ("x", 0), ("N", 0), ("5", 0), ("nn", 1), ("i", 1), ("i;", 1), ("i-", 2), ("i-;", 2), ("i-0;", 2),
            ("i--1;", 2), ("i00;", 2), ("i01;", 2), ("i0", 2), ("i1", 2), ("i1n", 2), ("i+1;", 1), ("i 1;", 1),
            ("i" + "1" * 60, 61), ("i" + "1" * 61, 61), ("i" + "1" * 61 + ";", 61), ("i-" + "1" * 61 + ";", 62),
            ("s", 1), ("s:", 1), ("s-1:", 1), ("s00:", 2), ("s01:a", 2), ("s200:", 5), ("s201:", 3), ("s2000:", 4),
            ("s2011:", 3), ("s3:ab", 5), ("s3:aBc", 4), ("s2:a\n", 4), ("s1:~", 3), ("s1:ab", 4), ("s999", 3),
            ("t", 1), ("t:", 1), ("t01:n", 2), ("t0:n", 3), ("t9000:", 6), ("t9001:", 4), ("t90000:", 5), ("t10000:", 5),
            ("t2:n", 4), ("t2:nx", 4), ("t2:nnn", 5), ("t1:t1:i01;", 8), (deep, 30), (deep + "t0:", 30),
            (deep[:-3] + "t", 28), (deep + "s2:a_", 34), ("t2:" + deep[3:] + "n" + "t1:" * 10, 58),
        )
        for text, spot in spots:
            assert_raises(self, ParseError, ("spot", spot), read_plain, text)
        self.assertEqual(read_plain("i" + "1" * 60 + ";"), int("1" * 60))
        self.assertEqual(read_plain("i-" + "1" * 60 + ";"), -int("1" * 60))
        self.assertEqual(read_plain(deep + "n"), ((((((((((None,),),),),),),),),),))
        self.assertEqual(read_plain(deep[3:] + "t0:"), (((((((((((),),),),),),),),),)))

    def test_spots_against_all_short_texts(self):
        starts = {text[:end] for length in range(1, 7) for text in short_texts(length, 3) for end in range(length + 1)}
        for length in range(5):
            for signs in itertools.product(FEW, repeat=length):
                text = "".join(signs)
                found = the_error(read_plain, text)
                if found is None:
                    self.assertEqual(write_plain(read_plain(text)), text)
                    continue
                whole = self.completed(text[:found.spot])
                self.assertEqual(write_plain(read_plain(whole)), whole)
                if found.spot < length:
                    self.assertNotIn(text[:found.spot + 1], starts)

    @staticmethod
    @functools.lru_cache(maxsize=None)
    def completed(text):
        """A text that begins so: each sign is the first one that is not told as wrong."""
        found = the_error(read_plain, text)
        while found is not None:
            text += next(sign for sign in ";:n0a1" if getattr(the_error(read_plain, text + sign), "spot", None)
                         in (None, len(text) + 1))
            found = the_error(read_plain, text)
        return text


class SealTest(unittest.TestCase):
    def test_seals(self):
        for text in ("", "n", "i7;", "s3:abc", "t2:nn", " .:;,-", "z" * 9000):
            total = 0
            for place in range(len(text)):
                total += ord(text[place]) * (place + 1)
            self.assertEqual(seal_of(text), f"{total % 9973:04d}")
        for text in ("A", "i7;\n", "a_b", "(", "\u00e9"):
            assert_raises(self, ParseError, ("spot", None), seal_of, text)

    def test_each_beginning_is_torn(self):
        rng = random.Random(3)
        for value in [some_value(rng, 3) for _ in range(150)] + [nested(tuple, 10), "x" * 200, (None,) * 200]:
            text = sealed(value)
            self.assertEqual(text, f"{len(write_plain(value))}:{write_plain(value)}{seal_of(write_plain(value))};")
            self.assertEqual(repr(unsealed(text)), repr(("whole", value)))
            for end in range(len(text)):
                self.assertEqual(unsealed(text[:end]), ("torn",), text[:end])
            for sign in "0;:n ~\n":
                self.assertEqual(unsealed(text + sign), ("wrong",))

    def test_one_wrong_sign(self):
        rng = random.Random(4)
        for value in [some_value(rng, 2) for _ in range(40)] + [0, None, ()]:
            text = sealed(value)
            for index in range(len(text)):
                for sign in rng.sample(SIGNS + "~A\n", 12):
                    if sign != text[index]:
                        other = text[:index] + sign + text[index + 1:]
                        self.assertNotEqual(unsealed(other)[0], "whole", other)

    def test_beginnings_against_all_short_texts(self):
        # Here the length is told, so all texts with this length can be written out.
        for length in range(1, 7):
            whole = set(short_texts(length, 3))
            starts = {text[:end] for text in whole for end in range(length + 1)}
            for many in range(min(length, 4) + 1):
                for row in itertools.product(FEW, repeat=many):
                    text = "".join(row)
                    torn = text in (starts if many < length else whole)
                    self.assertEqual(unsealed(f"{length}:{text}"), ("torn",) if torn else ("wrong",), (length, text))

    def test_lengths_that_no_text_has(self):
        self.assertEqual(unsealed("2"), ("torn",))
        self.assertEqual(unsealed("2:"), ("wrong",))
        for text, told in (
                ("", "torn"), ("0", "wrong"), ("0:", "wrong"), ("00", "wrong"), ("01", "wrong"), (":", "wrong"),
                ("9000", "torn"), ("9000:", "torn"), ("9001", "wrong"), ("90000", "wrong"), ("9", "torn"), ("1:", "torn"),
                ("1:i", "wrong"), ("1:n", "torn"), ("1:nn", "wrong"), ("3:s", "torn"), ("3:s1", "wrong"), ("4:s1", "torn"),
                ("9000:t8994:", "torn"), ("9000:t8995:", "wrong"), ("9000:t8993:", "wrong"), ("9000:t8992:", "torn"),
                ("9000:t1:", "torn"), ("9000:i", "wrong"), ("9000:s", "wrong"), ("206:s", "wrong"), ("205:s", "torn"),
                ("104:s", "wrong"), ("104:t", "torn"), ("104:i", "wrong"), ("63:i", "torn"), ("64:i", "wrong"),
                ("63:i1", "wrong"), ("62:i1", "torn"), ("63:i-", "torn"), ("64:i-", "wrong"), ("3:i-", "wrong"), ("3:i0", "torn"),
                ("4:i0", "wrong"), ("4:i-", "torn"), ("6:t2:i1", "wrong"), ("7:t2:i1", "torn"), ("103:s9", "torn"), ("105:s1", "torn"), ("104:s1", "wrong"), ("5:s2", "torn"),
                ("a", "wrong"), ("-", "wrong"), ("3:i7;0392", "torn"), ("3:i7;0393", "wrong"), ("3:i7;392;", "wrong")):
            self.assertEqual(unsealed(text), (told,), text)

    def test_beginnings_ten_deep(self):
        deep = "t1:" * 10
        for length, told in ((30, "wrong"), (31, "torn"), (32, "wrong"), (33, "torn"), (133, "torn"), (134, "wrong"),
                             (135, "torn"), (235, "torn"), (236, "wrong")):
            self.assertEqual(unsealed(f"{length}:{deep}"), (told,), length)
        outer = "t1:" * 9 + "t2:"
        for length, told in ((32, "torn"), (33, "wrong"), (34, "torn"), (134, "torn"), (440, "torn"), (441, "wrong")):
            self.assertEqual(unsealed(f"{length}:{outer}"), (told,), length)
        for length, told in ((134, "torn"), (135, "wrong"), (136, "torn"), (236, "torn"), (237, "wrong")):
            self.assertEqual(unsealed(f"{length - 1}:{outer[:-2]}1:"), (told,), length)
        for length in (134, 8999):
            self.assertEqual(unsealed(f"{length}:" + "t1:" * 9), ("torn",))

    def test_the_lengths_of_all_texts(self):
        for deep in (0, 1, 2):
            lengths = lengths_of_texts(deep, 420)
            least = {1} | set(range(3, 421)) if deep else {1} | set(range(3, 104)) | set(range(105, 206))
            self.assertEqual(lengths, least)

    def test_sealed_texts_of_9020_signs(self):
        self.assertEqual(unsealed("9" * 9020), ("wrong",))
        assert_raises(self, ParseError, ("spot", None), unsealed, "9" * 9021)
        exact = (None,) * 8994
        self.assertEqual(unsealed(sealed(exact)), ("whole", exact))
        self.assertEqual(unsealed(sealed(exact)[:-1]), ("torn",))
        self.assertEqual(len(sealed(exact)), 9010)


class RowTest(unittest.TestCase):
    def test_rows_are_parted_in_one_way(self):
        rng = random.Random(5)
        for _ in range(60):
            values = [some_value(rng, 2) for _ in range(rng.randrange(6))]
            parts = [sealed(value) for value in values]
            row = "".join(parts)
            self.assertEqual(repr(parted(row)), repr((tuple(values), len(row))))
            for end in range(0, len(row), 3):
                whole = [place for place in range(len(parts) + 1) if len("".join(parts[:place])) <= end][-1]
                self.assertEqual(repr(parted(row[:end])), repr((tuple(values[:whole]), len("".join(parts[:whole])))))

    def test_what_is_wrong_ends_a_row(self):
        self.assertEqual(parted(""), ((), 0))
        self.assertEqual(parted("x3:i7;0392;"), ((), 0))
        self.assertEqual(parted("3:i7;0392;3:i7;0393;1:n0110;"), ((7,), 10))
        self.assertEqual(parted("1:n0110;03:i7;0392;"), ((None,), 8))
        self.assertEqual(parted("9001:" + "n" * 9001), ((), 0))
        for text in ("nn", "i7;n", "s1:ab", "N", ""):
            self.assertEqual(parted(f"{len(text)}:{text}{seal_of(text) if text != 'N' else '0078'};1:n0110;"), ((), 0))

    def test_rows_of_100000_signs(self):
        row = "1:n0110;" * 12500
        self.assertEqual(len(row), 100000)
        self.assertEqual(parted(row), ((None,) * 12500, 100000))
        assert_raises(self, ParseError, ("spot", None), parted, row + "1")


class NotTrueTest(unittest.TestCase):
    """[1.7]: what is not true has an example."""

    def test_two_exchanged_signs_can_be_alike(self):
        text = sealed((None, None))
        self.assertEqual(text[5] + text[6], "nn")
        self.assertEqual(unsealed(text[:5] + text[6] + text[5] + text[7:]), ("whole", (None, None)))

    def test_texts_do_not_ascend_as_integers(self):
        self.assertLess(write_plain(10), write_plain(9))

    def test_a_sealed_text_is_no_text(self):
        assert_raises(self, ParseError, ("spot", 0), read_plain, sealed(7))


if __name__ == "__main__":
    unittest.main()
