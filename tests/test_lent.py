"""Whole runs against a foe: what is lent is known above [0.17], and each answer is that of one moment [0.15]."""

import random
import unittest

from told_runs import ToldRun, some_event
from wholemoment.lend.setups import Setup

SHAPES = ((0,), (0, 1), (0, 0), (0, 1, 1), (0, 1, 2))


def some_run(seed, without=None, events=150):
    """A drawn run, up to its first copy that is true though it is not lent any more."""
    rng = random.Random(seed)
    parents = rng.choice(SHAPES)
    readers = tuple(rng.randrange(1, len(parents) + 1) for _ in range(2))
    setup = Setup(rng.randrange(1, 4), parents, rng.choice((3, 6, 12)), span=rng.choice((0, 10)), patience=rng.choice((1, 3)),
                  readers=readers)
    run = ToldRun(setup, without)
    for _ in range(events):
        some_event(rng, run)
        if run.not_lent():
            break
    return run


class LentTest(unittest.TestCase):
    def test_all_rules(self):
        answers = deeds = 0
        for seed in range(120):
            run = some_run(seed)
            self.assertEqual((run.not_lent(), run.wrong_copies(), run.wrong_answers()), ([], [], []), seed)
            answers += len(run.answers)
            deeds += len(run.log)
        self.assertGreater(min(answers, deeds), 150)

    def test_without_a_rule(self):
        """The same foe finds what breaks without a rule: so the checks above can fail."""
        for word in ("spread", "stamp", "late", "ceiling", "held"):
            runs = [some_run(seed, word, 100) for seed in range(40)]
            self.assertTrue(any(run.not_lent() or run.wrong_copies() or run.wrong_answers() for run in runs), word)

    def test_the_history_only_grows(self):
        for seed in range(20):
            lengths = [length for _, _, length in some_run(seed).times]
            self.assertEqual(lengths, sorted(lengths))


if __name__ == "__main__":
    unittest.main()
