"""What holds in every run, stage 16."""

import unittest

from drawn_runs import SHAPES, some_system
from helpers import ODD, assert_raises, mutants
from told_sound import told_faults, told_papers, told_shown
from wholemoment import errors
from wholemoment.lend.setups import Setup
from wholemoment.run.sound import fault, is_moment_paper, is_sound, moment_paper, papers_in_sequence, shown
from wholemoment.run.systems import System

START = System(Setup(2, (0,), 8))
ASKED, DEED = ("key", "a"), (("a", 5),)
RUN = START.run((("read", 0, ASKED, 0), ("hand", 0), ("sync",), ("hand", 1)))


def first_of(faults):
    return faults[0] if faults else None


def lies(system, index):
    """Whether some instant of an answer is shown, and the page stood whenever one is."""
    papers = told_papers(system, system.answers[index])
    return [(time, moment) for time, moment, right in papers if right]


class ExampleTest(unittest.TestCase):
    def test_the_examples(self):
        self.assertEqual([RUN.answers[0][6:], fault(RUN), is_sound(START), moment_paper(RUN, 0), is_moment_paper(RUN, 0, ("stood", 3, 0))],
                         [(0, 0, (0, 2), (0, 2)), None, True, ("stood", 4, 0), False])
        self.assertEqual([shown(RUN, 1, 1), shown(RUN.done(("beat", (1, 2))), 1, 4), papers_in_sequence(RUN, 0)],
                         [((0, 1),), ((0, 2), (1, 2)), (("stood", 4, 0),)])


class ShownTest(unittest.TestCase):
    def test_what_is_shown(self):
        run = RUN.run((("beat", (1, 2)), ("look", 1), ("fall", 1, ()), ("beat", (2, 2)), ("rise", 1), ("beat", (1, 1)), ("beat", (2, 2))))
        told = [shown(run, 1, time) for time in range(12)]
        self.assertEqual(told, [((0, 0),), ((0, 1),), ((0, 1),), ((0, 1),), ((0, 2), (1, 2)), ((2, 2),), ((2, 3),), (), (), ((4, 0),),
                                ((5, 0), (6, 0)), ((7, 0),)])
        # A beat that comes next is seen only when it is done.
        self.assertEqual([shown(RUN, 1, 4), shown(START, 1, 0)], [((0, 2),), ((0, 0),)])

    def test_counts_of_one_event(self):
        lent = System(Setup(1, (0,), 9)).run((("read", 0, ASKED, 0), ("hand", 0), ("sync",), ("hand", 1)))
        wanted = lent.run((("write", 0, DEED), ("hand", 2), ("sync",), ("hand", 3)))
        self.assertEqual(shown(wanted, 1, 8), ((0, 3), (0, 4)))

    def test_as_told_anew(self):
        for seed in range(30):
            system = some_system(seed, None, 90)[-1]
            for number in system.caches:
                for time in range(len(system) + 1):
                    self.assertEqual(shown(system, number, time), told_shown(system, number, time))

    def test_all_instants_ascend_through_a_life(self):
        for seed in range(20):
            system = some_system(seed, None, 90)[-1]
            for number in system.caches:
                lives = {}
                for time, row in enumerate(system.instants(number)):
                    lives.setdefault(row[0] if row else None, []).extend(shown(system, number, time))
                for row in lives.values():
                    self.assertTrue(all(early[0] <= late[0] and early[1] <= late[1] for early, late in zip(row, row[1:])))

    def test_wrong_arguments(self):
        for value in ODD:
            assert_raises(self, errors.InvalidSystem, None, shown, value, 9, -1)
        for value in (0, 2, True, None, "1", 10 ** 60):
            assert_raises(self, errors.InvalidMachine, None, shown, RUN, value, -1)
        for value in (-1, 5, True, None, "1", 10 ** 60):
            assert_raises(self, errors.InvalidNumber, ("given", value), shown, RUN, 1, value)


class FaultTest(unittest.TestCase):
    def test_nothing_is_broken_with_all_rules(self):
        answers = deeds = 0
        for seed in range(150):
            row = some_system(seed, None, 160, SHAPES[:6])
            for system in row[::40] + row[-1:]:
                self.assertIsNone(fault(system), seed)
                self.assertIs(is_sound(system), True)
            if seed < 25:
                self.assertEqual(told_faults(row[-1]), [])
            answers += len(row[-1].answers)
            deeds += len(row[-1].deeds)
        self.assertGreater(min(answers, deeds), 200)

    def test_without_a_rule_the_first_one_is_told(self):
        words = {}
        for word in ("stamp", "late", "held", "ceiling", "spread"):
            for seed in range(25):
                system = some_system(seed, word, 120)[-1]
                found = fault(system)
                self.assertEqual(found, first_of(told_faults(system)), (word, seed))
                self.assertIs(is_sound(system), found is None)
                words[found and found[0]] = words.get(found and found[0], 0) + 1
        self.assertLessEqual({None, "answer", "copy", "lent"}, set(words))

    def test_a_lease_in_no_book(self):
        """Without "within" the cache 2 holds a key for longer than the cache 1."""
        run = System(Setup(1, (0, 1), 4, readers=(1, 2)), without="within")
        run = run.run((("read", 0, ASKED, 0), ("hand", 0), ("sync",), ("hand", 1)) + (("beat", (1, 1, 1)),) * 3)
        run = run.run((("read", 1, ASKED, 0), ("hand", 2), ("hand", 3), ("beat", (1, 1, 1))))
        self.assertIsNone(fault(run))
        # The cache 1 still has the cache 2 in its book, and lets its own copy go; then the deed comes.
        late = run.run((("beat", (1, 1, 1)), ("write", 0, DEED), ("hand", 4)))
        self.assertIsNone(fault(late))
        self.assertEqual(fault(late.done(("sync",))), ("copy", 2, "a"))
        self.assertEqual(fault(late.run((("sync",), ("read", 1, ASKED, 0)))), ("answer", 2))

    def test_a_lease_that_the_lender_has_forgotten(self):
        early = (("read", 0, ASKED, 0), ("hand", 0), ("sync",), ("hand", 1), ("fall", 0, ()))
        for word, found in (("ceiling", ("lent", 1, "a")), (None, None)):
            run = System(Setup(1, (0,), 4), without=word).run(early)
            self.assertIsNone(fault(run))
            self.assertEqual(fault(run.done(("rise", 0))), found)

    def test_lent_below_a_cache_that_rose(self):
        """A cache that rose waits for T units behind its rising."""
        run = System(Setup(1, (0, 1), 4, readers=(2,)))
        run = run.run((("read", 0, ASKED, 0), ("hand", 0), ("hand", 1), ("sync",), ("hand", 2), ("hand", 3), ("fall", 1, ())))
        self.assertEqual(run.caches[2].shelf.true_keys(0), ("a",))
        for beats in range(5):
            up = run.run((("rise", 1),) + (("beat", (1, 1, 1)),) * beats)
            self.assertEqual((up.caches[2].shelf.true_keys(beats), fault(up)), (("a",), None))

    def test_an_answer_that_a_fall_took_back(self):
        run = System(Setup(1, (0,), 4), without="held")
        run = run.run((("read", 0, ASKED, 0), ("write", 0, DEED), ("hand", 1), ("hand", 0), ("hand", 3)))
        self.assertEqual((run.answers[0][7], fault(run), moment_paper(run, 0)), (5, ("answer", 0), None))
        self.assertIsNone(papers_in_sequence(run, 0))
        # A paper is there as soon as the deed is sure, but it did not stand ahead of this.
        late = run.done(("sync",))
        self.assertEqual((fault(late), moment_paper(late, 0)), (("answer", 0), ("stood", 6, 1)))
        self.assertEqual(papers_in_sequence(late, 0), (("stood", 6, 1),))

    def test_wrong_systems(self):
        for value in ODD:
            for call in (fault, is_sound):
                assert_raises(self, errors.InvalidSystem, None, call, value)


class PaperTest(unittest.TestCase):
    def test_each_answer_has_a_paper(self):
        several = 0
        for seed in range(60):
            system = some_system(seed, None, 160)[-1]
            for index in range(len(system.answers)):
                right = lies(system, index)
                several += len(right) > 1
                self.check_papers(system, index, right)
        self.assertGreater(several, 20)

    def test_papers_without_a_rule(self):
        none = 0
        for seed in range(40):
            system = some_system(seed, ("held", "stamp")[seed % 2], 120)[-1]
            for index in range(len(system.answers)):
                right = lies(system, index)
                none += not right
                self.check_papers(system, index, right)
        self.assertGreater(none, 5)

    def check_papers(self, system, index, right):
        paper = moment_paper(system, index)
        if not right:
            self.assertIsNone(paper)
        else:
            self.assertIs(is_moment_paper(system, index, paper), True)
            self.assertEqual(paper[0], "stood")
        told = {("stood",) + pair for pair in right}
        for pair in right:
            self.assertIs(is_moment_paper(system, index, ("stood",) + pair), True)
        for value in (paper, None, ("stood", 0, 0), ("stood", len(system), len(system.deeds))):
            for near in [value] + list(mutants(value)):
                is_right = type(near) is tuple and len(near) == 3 and all(type(part) is int for part in near[1:]) and near in told
                self.assertIs(is_moment_paper(system, index, near), is_right, near)

    def test_papers_of_one_answer_can_have_unlike_moments(self):
        """[16.6]: a deed on another key comes while the instant of the answer lasts."""
        run = RUN.run((("write", 0, (("b", 6),)), ("hand", 2), ("sync",)))
        self.assertEqual([is_moment_paper(run, 0, ("stood", time, moment)) for time, moment in ((4, 0), (6, 0), (7, 1), (7, 0), (8, 1))],
                         [True, True, True, False, False])

    def test_an_answer_can_be_wrong_when_it_is_told(self):
        """[16.6]: its page stood at an instant that it tells, and not any more when the reader gets it."""
        run = System(Setup(1, (0,), 4, readers=(1, 1))).run((("read", 0, ASKED, 0), ("hand", 0), ("sync",), ("hand", 1)))
        run = run.run((("beat", (1, 1)),) * 5 + (("write", 0, DEED), ("hand", 2), ("sync",), ("read", 1, ASKED, 5)))
        self.assertEqual((run.answers[1][7:], run.deeds, fault(run)), ((0, (0, 2), (4, 3)), (DEED,), None))
        self.assertEqual((moment_paper(run, 1)[2], is_moment_paper(run, 1, ("stood", 13, 1))), (0, False))

    def test_wrong_arguments(self):
        for value in ODD:
            assert_raises(self, errors.InvalidSystem, None, moment_paper, value, -1)
            assert_raises(self, errors.InvalidSystem, None, is_moment_paper, value, -1, None)
            assert_raises(self, errors.InvalidSystem, None, papers_in_sequence, value, -1)
        for value in (-1, 1, True, None, "0", 10 ** 60):
            assert_raises(self, errors.InvalidNumber, ("given", value), moment_paper, RUN, value)
            assert_raises(self, errors.InvalidNumber, ("given", value), is_moment_paper, RUN, value, None)
            assert_raises(self, errors.InvalidNumber, ("given", value), papers_in_sequence, RUN, value)
        assert_raises(self, errors.InvalidNumber, ("given", 0), moment_paper, START, 0)
        for value in ODD:
            self.assertIs(is_moment_paper(RUN, 0, value), False)


class SequenceTest(unittest.TestCase):
    def test_times_never_fall(self):
        rows = 0
        for seed in range(80):
            system = some_system(seed, None, 200)[-1]
            for reader in range(len(system.readers)):
                papers = papers_in_sequence(system, reader)
                self.check_sequence(system, reader, papers)
                rows += len(papers) > 2
        self.assertGreater(rows, 20)

    def check_sequence(self, system, reader, papers):
        mine = [index for index, answer in enumerate(system.answers) if answer[1] == reader]
        last = [index for index in mine if system.answers[index][4] == system.answers[mine[-1]][4]]
        self.assertEqual(len(papers), len(last))
        for index, paper in zip(last, papers):
            self.assertIs(is_moment_paper(system, index, paper), True)
        self.assertTrue(all(early[1] <= late[1] for early, late in zip(papers, papers[1:])))

    def test_without_an_answer(self):
        self.assertEqual(papers_in_sequence(START, 0), ())

    def test_what_is_asked_behind_a_done_shows_the_deed(self):
        seen = 0
        for seed in range(80):
            row = some_system(seed, None, 200)
            wrote, asked = {}, {}
            for early, late in zip(row, row[1:]):
                self.note_closed_writes(early, late, wrote)
                for j, (old, new) in enumerate(zip(early.readers, late.readers)):
                    if new.read_number > old.read_number:
                        asked[(j, new.read_number)] = wrote.get(j, 0)
                for answer in late.answers[len(early.answers):]:
                    moments = [moment for _, moment in lies(late, late.answers.index(answer))]
                    self.assertTrue(min(moments) >= asked[answer[1:3]], seed)
                    seen += asked[answer[1:3]] > 0
        self.assertGreater(seen, 40)

    def note_closed_writes(self, early, late, wrote):
        """For each reader the least moment behind the deed whose "done" it heard last."""
        for j, (old, new) in enumerate(zip(early.readers, late.readers)):
            if old.open_write is not None and new.open_write is None:
                self.assertIn(old.open_write[1], late.deeds)
                wrote[j] = max(at + 1 for at, deed in enumerate(late.deeds) if deed == old.open_write[1])

    def test_floors_never_go_back_in_a_life(self):
        for seed in range(40):
            row = some_system(seed, None, 150)
            for early, late in zip(row, row[1:]):
                for old, new in zip(early.readers, late.readers):
                    self.assertGreaterEqual(new.floor[0], old.floor[0])
                    if late.caches[new.place] is not None:
                        self.assertGreaterEqual(new.floor[1], old.floor[1])


if __name__ == "__main__":
    unittest.main()
