"""Questions [3.1] to [3.6]."""

import itertools
import random
import unittest

from helpers import assert_raises, doubled, mutants
from wholemoment.errors import InvalidKey, InvalidQuestion, InvalidValue, Refused
from wholemoment.store import questions
from wholemoment.store.questions import (
    answer_of_page, hangs_paper, is_hangs_paper, is_question, is_straight, keys_of, page_of, plain_answer,
    question_size, span_of,
)

MOST = 999999999999
TOTAL = ("plus", ("sum", ("a", "b")), ("times", ("key", "c"), ("number", 2)))
CAPPED = ("least", ("many", ("a", "b")), ("most", ("number", 7), ("key", "c")))
TWO_SIDED = ("plus", "minus", "times", "least", "most", "less", "same", "both", "any")
STRAIGHT = ("plus", "minus", "least", "most")


def clamp(number):
    return min(max(number, -MOST), MOST)


def reference_answer(question, page):
    """The answer, told anew by a table."""
    word, told = question[0], question[1:]
    count = {key: value or 0 for key, value in page.items()}
    if word == "number":
        return told[0]
    if word == "key":
        return count.get(told[0], 0)
    if word == "there":
        return int(page.get(told[0]) is not None)
    if word == "sum":
        return clamp(sum(count.get(key, 0) for key in told[0]))
    if word == "many":
        return sum(page.get(key) is not None for key in told[0])
    parts = [reference_answer(part, page) for part in told]
    return {
        "plus": lambda x, y: clamp(x + y), "minus": lambda x, y: clamp(x - y), "times": lambda x, y: clamp(x * y),
        "least": min, "most": max, "less": lambda x, y: int(x < y), "same": lambda x, y: int(x == y),
        "both": lambda x, y: int(x != 0 and y != 0), "any": lambda x, y: int(x != 0 or y != 0),
        "if": lambda x, y, z: y if x else z,
    }[word](*parts)


def some_question(rng, keys, deep, words=TWO_SIDED + ("if",)):
    """Some question of these keys, none of which stands in it twice."""
    if deep and rng.random() < 0.75:
        word = rng.choice(words)
        sides = 3 if word == "if" else 2
        shares = [[key for place, key in enumerate(keys) if place % sides == side] for side in range(sides)]
        rng.shuffle(shares)
        return (word,) + tuple(some_question(rng, share, deep - 1, words) for share in shares)
    kind = rng.choice(("number", "key", "there", "sum", "many")) if keys else "number"
    if kind == "number":
        return ("number", rng.choice((0, 1, 2, -1, 5, MOST, -MOST, MOST - 1, rng.randrange(-9, 9))))
    if kind in ("key", "there"):
        return (kind, rng.choice(keys))
    return (kind, tuple(sorted(rng.sample(keys, rng.randrange(1, len(keys) + 1)))))


def some_page(rng, keys, values=(None, 0, 1, 2, -1, 7, MOST, -MOST, 1 - MOST)):
    return {key: rng.choice(values) for key in keys}


def is_reference_paper(question, key, value):
    if type(value) is not tuple or len(value) != 2:
        return False
    for page in value:
        if type(page) is not dict or set(page) != set(keys_of(question)):
            return False
        if not all(told is None or type(told) is int and abs(told) <= MOST for told in page.values()):
            return False
    one, other = value
    return ([name for name in sorted(one) if one[name] != other[name]] == [key]
            and reference_answer(question, one) != reference_answer(question, other))


class FormsTest(unittest.TestCase):
    def test_constants(self):
        self.assertEqual((questions.MAX_SIZE, questions.MOST), (40, MOST))

    def test_examples(self):
        pairs = {"a": 5, "c": 4, "x": 9}
        self.assertEqual([question_size(TOTAL), keys_of(TOTAL), plain_answer(TOTAL, pairs)], [7, ("a", "b", "c"), 13])
        self.assertEqual(page_of(TOTAL, pairs), {"a": 5, "b": None, "c": 4})
        self.assertIs(is_straight(TOTAL), False)
        self.assertEqual([span_of(CAPPED), hangs_paper(CAPPED, "c")], [(0, 2), None])
        paper = ({"a": None, "b": 1, "c": None}, {"a": 3, "b": 1, "c": None})
        self.assertIs(is_hangs_paper(CAPPED, "a", paper), True)
        assert_raises(self, Refused, ("reason", ("straight",)), span_of, TOTAL)

    def test_forms(self):
        sides = [(word, ("number", 1), ("key", "a")) for word in TWO_SIDED]
        for value in sides + [("number", MOST), ("number", -MOST), ("key", "abcdefgh"), ("there", "a"), ("sum", ("a",)),
                              ("many", ("a", "b")), ("if", ("number", 0), ("key", "a"), ("key", "a"))]:
            self.assertIs(is_question(value), True, value)
        for value in ((), ("number",), ("number", MOST + 1), ("number", -MOST - 1), ("number", True), ("number", None),
                      ("number", 1, 2), ("key", "A"), ("key", ("a",)), ("there", ""), ("sum", ()), ("sum", "a"),
                      ("sum", ("b", "a")), ("sum", ("a", "a")), ("many", ["a"]), ("many", ("a",), ("b",)),
                      ("plus", ("number", 1)), ("plus", ("number", 1), 1), ("if", ("number", 1), ("number", 1)),
                      ("plus", ("number", 1), ("number", 1), ("number", 1)), ["key", "a"], ("Plus", ("key", "a"), ("key", "a")),
                      ("not", ("key", "a")), (("key", "a"),), ("key",), "key", {"key": "a"}, None, (1, 2), ([], 2)):
            self.assertIs(is_question(value), False, value)

    def test_sizes(self):
        self.assertEqual(question_size(("if", ("there", "a"), ("sum", ("a", "b", "c")), ("many", ("d",)))), 8)
        keys = tuple(sorted("abcdefghijklmnopqrstuvwxyz") + ["z" + letter for letter in "abcdefghijklm"])
        self.assertEqual(question_size(("sum", keys)), 40)
        self.assertEqual(len(keys_of(("many", keys))), 39)
        self.assertIs(is_question(("sum", keys + ("zn",))), False)
        chain = ("key", "a")
        for _ in range(19):
            chain = ("plus", chain, ("number", 1))
        self.assertEqual(question_size(chain), 39)
        self.assertEqual(plain_answer(chain, {"a": 2}), 21)
        self.assertIs(is_question(("minus", chain, ("number", 1))), False)
        self.assertEqual(question_size(("minus", chain[1], ("sum", ("a",)))), 40)
        assert_raises(self, InvalidQuestion, None, question_size, ("minus", chain, ("number", 1)))

    def test_one_part_again_and_again(self):
        part = ("key", "a")
        for _ in range(22):
            part = ("plus", part, part)
        self.assertIs(is_question(part), False)
        self.assertIs(is_question(("plus", doubled(22), doubled(22))), False)

    def test_keys(self):
        self.assertEqual(keys_of(("if", ("key", "c"), ("sum", ("a", "c")), ("less", ("there", "b"), ("key", "c")))),
                         ("a", "b", "c"))
        self.assertEqual(keys_of(("number", 3)), ())

    def test_straight(self):
        for value in (CAPPED, ("number", 1), ("minus", ("sum", ("a", "b")), ("there", "c")), ("most", ("key", "a"), ("number", 1))):
            self.assertIs(is_straight(value), True, value)
        for value in (("plus", ("key", "a"), ("key", "a")), ("plus", ("sum", ("a", "b")), ("there", "b")), None, ("key", "A"),
                      ("if", ("number", 1), ("number", 1), ("number", 1)),
                      ("least", ("times", ("key", "a"), ("number", 1)), ("key", "b")),
                      ("least", ("key", "a"), ("less", ("key", "b"), ("number", 1)))):
            self.assertIs(is_straight(value), False, value)
        for word in TWO_SIDED:
            self.assertIs(is_straight((word, ("key", "a"), ("key", "b"))), word in STRAIGHT)


class AnswersTest(unittest.TestCase):
    def test_against_a_table(self):
        rng = random.Random(1)
        for _ in range(2000):
            question = some_question(rng, list("abcde"), 3)
            page = some_page(rng, "abcdefg")
            pairs = {key: value for key, value in page.items() if value is not None}
            self.assertEqual(plain_answer(question, pairs), reference_answer(question, page), (question, page))
            own = page_of(question, pairs)
            self.assertEqual(own, {key: page[key] for key in keys_of(question)})
            self.assertEqual(list(own), sorted(own))
            self.assertEqual(answer_of_page(question, dict(reversed(own.items()))), reference_answer(question, page))
            self.assertTrue(-MOST <= plain_answer(question, pairs) <= MOST)

    def test_words(self):
        def told(word, one, other):
            return plain_answer((word, ("number", one), ("number", other)), {})
        self.assertEqual([told("plus", MOST, 1), told("minus", -MOST, 1), told("times", MOST, -2)], [MOST, -MOST, -MOST])
        self.assertEqual([told("plus", MOST - 1, 1), told("least", 3, -4), told("most", 3, -4)], [MOST, -4, 3])
        self.assertEqual([told("less", 1, 2), told("less", 2, 2), told("same", 2, 2), told("same", 1, 2)], [1, 0, 1, 0])
        self.assertEqual([told("both", 1, -1), told("both", 0, 1), told("any", 0, -3), told("any", 0, 0)], [1, 0, 1, 0])
        self.assertEqual(plain_answer(("sum", ("a", "b", "c")), {"a": MOST, "b": 5, "c": -3}), MOST)
        self.assertEqual(plain_answer(("there", "a"), {"a": 0}), 1)
        self.assertEqual(plain_answer(("many", ("a", "b", "c")), {"a": 0, "c": -1}), 2)
        self.assertEqual(plain_answer(("if", ("key", "a"), ("number", 1), ("number", 2)), {"b": 1}), 2)
        self.assertEqual(plain_answer(("if", ("key", "a"), ("number", 1), ("number", 2)), {"a": -1}), 1)

    def test_pages_of_questions(self):
        self.assertEqual(answer_of_page(("number", 4), {}), 4)
        page = {"c": None, "b": 1, "a": 4}
        self.assertEqual(answer_of_page(TOTAL, page), 5)
        for value in (*mutants(page), {"a": 1, "b": 2}, {**page, "d": 1}, None, (), {"a": 1, "b": True, "c": None}):
            if value == {"a": 4, "b": 1, "c": None} or type(value) is dict and set(value) == set("abc") and all(
                    told is None or type(told) is int and abs(told) <= MOST for told in value.values()):
                continue
            assert_raises(self, InvalidValue, None, answer_of_page, TOTAL, value)

    def test_errors(self):
        assert_raises(self, InvalidQuestion, None, plain_answer, ("key", "A"), {"A": 1})
        assert_raises(self, InvalidValue, None, plain_answer, TOTAL, {"a": None})
        assert_raises(self, InvalidValue, None, page_of, TOTAL, {"x": True})


class HangsTest(unittest.TestCase):
    def test_spans(self):
        rng = random.Random(2)
        for _ in range(400):
            question = some_question(rng, list("abcd"), 3, STRAIGHT)
            least, greatest = span_of(question)
            keys = keys_of(question)
            answers = [reference_answer(question, dict(zip(keys, row)))
                       for row in itertools.product((None, 0, MOST, -MOST), repeat=len(keys))]
            self.assertEqual((min(answers), max(answers)), (least, greatest), question)

    def test_papers(self):
        rng = random.Random(3)
        hanging = 0
        for _ in range(1500):
            question = some_question(rng, list("abcdefg")[:rng.randrange(1, 8)], 4, STRAIGHT)
            for key in keys_of(question) + ("zz",):
                paper = hangs_paper(question, key)
                if paper is None:
                    self.check_no_paper(rng, question, key)
                else:
                    hanging += 1
                    self.assertTrue(is_reference_paper(question, key, paper), (question, key, paper))
                    self.assertIs(is_hangs_paper(question, key, paper), True)
                    self.assertEqual([list(page) for page in paper], [sorted(paper[0])] * 2)
        self.assertGreater(hanging, 400)

    def check_no_paper(self, rng, question, key):
        """No pages are near it: neither of many values, nor those at which the parts make their ends."""
        numbers = [part for part in str(question).replace(")", ",").split(",") if part.strip().lstrip("-").isdigit()]
        near = {clamp(int(part) + more) for part in numbers for more in (-1, 0, 1)}
        values = [None] + sorted(near | {0, 1, MOST, -MOST})
        keys = keys_of(question)
        for _ in range(20 if key in keys else 0):
            page = some_page(rng, keys, values)
            answer = reference_answer(question, page)
            for value in values:
                self.assertEqual(reference_answer(question, {**page, key: value}), answer, (question, key))
        self.assertIs(is_hangs_paper(question, key, None), False)

    def test_edges_of_steps(self):
        most, a = ("number", MOST), ("key", "a")
        self.assertIsNone(hangs_paper(("plus", ("plus", most, most), ("there", "a")), "a"))
        self.assertIsNotNone(hangs_paper(("plus", ("number", MOST - 1), ("there", "a")), "a"))
        self.assertIsNone(hangs_paper(("least", a, ("number", -MOST)), "a"))
        self.assertIsNotNone(hangs_paper(("least", a, ("number", 1 - MOST)), "a"))
        self.assertIsNone(hangs_paper(("most", a, most), "a"))
        self.assertIsNotNone(hangs_paper(("most", a, ("number", MOST - 1)), "a"))
        self.assertIsNotNone(hangs_paper(("minus", most, a), "a"))
        self.assertIsNone(hangs_paper(("minus", ("number", -MOST), ("most", ("there", "a"), ("number", 0))), "a"))
        self.assertIsNotNone(hangs_paper(("minus", ("number", 1 - MOST), ("there", "a")), "a"))
        self.assertIsNone(hangs_paper(("number", 1), "a"))

    def test_judge(self):
        paper = ({"a": None, "b": 1, "c": None}, {"a": 3, "b": 1, "c": None})
        swapped = (dict(reversed(paper[1].items())), paper[0])
        self.assertIs(is_hangs_paper(CAPPED, "a", swapped), True)
        self.assertIs(is_hangs_paper(CAPPED, "b", paper), False)
        self.assertIs(is_hangs_paper(CAPPED, "zz", paper), False)
        for question, key, told in ((CAPPED, "a", paper), (TOTAL, "c", ({"a": 1, "b": 0, "c": 1}, {"a": 1, "b": 0, "c": 0})),
                                    (("there", "a"), "a", ({"a": 0}, {"a": None}))):
            self.assertIs(is_hangs_paper(question, key, told), True)
            for value in mutants(told):
                self.assertIs(is_hangs_paper(question, key, value), is_reference_paper(question, key, value), value)

    def test_judge_of_any_question(self):
        square = ("times", ("key", "a"), ("key", "a"))
        self.assertIs(is_hangs_paper(square, "a", ({"a": 2}, {"a": 3})), True)
        self.assertIs(is_hangs_paper(square, "a", ({"a": 2}, {"a": -2})), False)
        self.assertIs(is_hangs_paper(("key", "a"), "a", ({"a": 0}, {"a": None})), False)

    def test_errors(self):
        assert_raises(self, InvalidKey, None, hangs_paper, TOTAL, "A")
        assert_raises(self, InvalidQuestion, None, hangs_paper, ("key", "A"), "A")
        assert_raises(self, Refused, ("reason", ("straight",)), hangs_paper, TOTAL, "zz")
        assert_raises(self, InvalidKey, None, is_hangs_paper, TOTAL, "A", None)


class NotTrueTest(unittest.TestCase):
    """[3.6]: what is not true has an example."""

    def test_a_key_on_which_nothing_hangs(self):
        self.assertIn("c", keys_of(CAPPED))
        self.assertIsNone(hangs_paper(CAPPED, "c"))

    def test_unlike_pages_with_like_answers(self):
        self.assertEqual(answer_of_page(("key", "a"), {"a": None}), answer_of_page(("key", "a"), {"a": 0}))


if __name__ == "__main__":
    unittest.main()
