"""What holds in every run, stage 16."""

import random
import unittest
from unittest import mock

from drawn_runs import SHAPES, some_system
from helpers import ODD, assert_raises, mutants
from told_sound import told_faults, told_papers, told_shown
from wholemoment import errors
from wholemoment.cache.copies import Copy, Shelf
from wholemoment.disk.log import read_log
from wholemoment.lend.books import Book
from wholemoment.lend.setups import Setup
from wholemoment.run.sound import fault, is_moment_paper, is_sound, moment_paper, papers_in_sequence, shown
from wholemoment.run.systems import System

START = System(Setup(2, (0,), 8))
ASKED, DEED = ("key", "a"), (("a", 5),)
RUN = START.run((("read", 0, ASKED, 0), ("hand", 0), ("sync",), ("hand", 1)))


def first_of(faults):
    return faults[0] if faults else None


def moved(rng, instant):
    """An instant near another one."""
    told = (instant[0] + rng.choice((-1, 0, 1)), instant[1] + rng.choice((-1, 0, 1)))
    return (max(0, told[0]), max(0, told[1]))


def tampered(rng, system):
    """An equal system in which one part was exchanged, None if it has no such part."""
    other = system.run(())
    kind = rng.choice((change_answer, change_copy, empty_book, empty_book, empty_book, change_origin, change_floor, change_history))
    return other if kind(rng, other) else None


def change_answer(rng, system):
    if not system.answers:
        return False
    at = rng.randrange(len(system.answers))
    answer = list(system.answers[at])
    part = rng.choice((4, 6, 7, 8, 9, 8, 9))
    answer[part] = moved(rng, answer[part]) if part > 7 else max(0, answer[part] + rng.choice((-1, 1))) if part < 7 else answer[part] + 1
    system.answers = system.answers[:at] + (tuple(answer),) + system.answers[at + 1:]
    return True


def change_copy(rng, system):
    numbers = [number for number, cache in system.caches.items() if cache is not None and len(cache.shelf)]
    if not numbers:
        return False
    number = rng.choice(numbers)
    cache = system.caches[number].looked(10 ** 9)[0]
    copies = list(system.caches[number].shelf.copies)
    at = rng.randrange(len(copies))
    copy = copies[at]
    begin, gone = rng.choice((copy.begin, moved(rng, copy.begin))), rng.choice((copy.gone, None))
    if gone is not None or rng.random() < 0.4:
        gone = gone or begin
        gone = (max(gone[0], begin[0]) + rng.randrange(2), max(gone[1], begin[1]) + rng.randrange(1, 3))
    value = rng.choice((copy.value, copy.value, 999))
    copies[at] = Copy(copy.key, value, begin, max(begin[0], copy.last + rng.randrange(-2, 3)), gone)
    cache.shelf, cache.turns, cache.book = Shelf(tuple(copies)), system.caches[number].turns, system.caches[number].book
    system.caches = {**system.caches, number: cache}
    return True


def empty_book(rng, system):
    number = rng.randrange(len(system.clocks))
    lender = system.caches[number] if number else system.origin
    if lender is None:
        return False
    twin = lender.looked(10 ** 9)[0] if number else lender.synced()[0]
    for name in ("shelf", "turns") if number else ("pairs", "numbers", "ceiling"):
        setattr(twin, name, getattr(lender, name))
    lent = {place: (asked, end - rng.randrange(4)) for place, (asked, end) in lender.book.lent.items() if rng.random() < 0.5}
    twin.book = Book({place: entry for place, entry in lent.items() if entry[1] >= 0})
    if number:
        system.caches = {**system.caches, number: twin}
    else:
        system.origin = twin
    return True


def change_origin(rng, system):
    if system.origin is None:
        return False
    twin = system.origin.synced()[0]
    part = rng.choice(("pairs", "numbers", "ceiling"))
    if part == "ceiling":
        twin.ceiling += 1
    else:
        setattr(twin, part, {**getattr(twin, part), **({"zz": 1} if part == "pairs" else {5: 9})})
    system.origin = twin
    return True


def change_floor(rng, system):
    at = rng.randrange(len(system.readers))
    twin = system.readers[at].fallen()
    twin.open_read, twin.floor = system.readers[at].open_read, moved(rng, system.readers[at].floor)
    system.readers = system.readers[:at] + (twin,) + system.readers[at + 1:]
    return True


def change_history(rng, system):
    if not system.deeds:
        return False
    system.deeds = system.deeds[:-1] + ((("zz", 1),),)
    return True


def lies(system, index):
    """Whether some instant of an answer is shown, and the page stood whenever one is."""
    papers = told_papers(system, system.answers[index])
    return [(time, moment) for time, moment, right in papers if right]


class ExampleTest(unittest.TestCase):
    def test_the_examples(self):
        self.assertEqual([RUN.answers[0][6:], fault(RUN), is_sound(START), moment_paper(RUN, 0), is_moment_paper(RUN, 0, ("stood", 3, 0))],
                         [(0, 0, (0, 2), (0, 2)), None, True, ("stood", 4, 0), False])
        self.assertEqual([shown(RUN, 1, 1), shown(RUN.done(("beat", (1, 2))), 1, 4), papers_in_sequence(RUN, 0)],
                         [((0, 1),), ((0, 2), (1, 2)), (("stood", 4, 0),)])


class ShownTest(unittest.TestCase):
    def test_what_is_shown(self):
        run = RUN.run((("beat", (1, 2)), ("look", 1), ("fall", 1, ()), ("beat", (2, 2)), ("rise", 1), ("beat", (1, 1)), ("beat", (2, 2))))
        told = [shown(run, 1, time) for time in range(12)]
        self.assertEqual(told, [((0, 0),), ((0, 1),), ((0, 1),), ((0, 1),), ((0, 2), (1, 2)), ((2, 2),), ((2, 3),), (), (), ((4, 0),),
                                ((5, 0), (6, 0)), ((7, 0),)])
        # A beat that comes next is seen only when it is done.
        self.assertEqual([shown(RUN, 1, 4), shown(START, 1, 0)], [((0, 2),), ((0, 0),)])

    def test_counts_of_one_event(self):
        lent = System(Setup(1, (0,), 9)).run((("read", 0, ASKED, 0), ("hand", 0), ("sync",), ("hand", 1)))
        wanted = lent.run((("write", 0, DEED), ("hand", 2), ("sync",), ("hand", 3)))
        self.assertEqual(shown(wanted, 1, 8), ((0, 3), (0, 4)))

    def test_as_told_anew(self):
        for seed in range(30):
            system = some_system(seed, None, 90)[-1]
            for number in system.caches:
                for time in range(len(system) + 1):
                    self.assertEqual(shown(system, number, time), told_shown(system, number, time))

    def test_all_instants_ascend_through_a_life(self):
        for seed in range(20):
            system = some_system(seed, None, 90)[-1]
            for number in system.caches:
                lives = {}
                for time, row in enumerate(system.instants(number)):
                    lives.setdefault(row[0] if row else None, []).extend(shown(system, number, time))
                for row in lives.values():
                    self.assertTrue(all(early[0] <= late[0] and early[1] <= late[1] for early, late in zip(row, row[1:])))

    def test_wrong_arguments(self):
        for value in ODD:
            assert_raises(self, errors.InvalidSystem, None, shown, value, 9, -1)
        for value in (0, 2, True, None, "1", 10 ** 60):
            assert_raises(self, errors.InvalidMachine, None, shown, RUN, value, -1)
        for value in (-1, 5, True, None, "1", 10 ** 60):
            assert_raises(self, errors.InvalidNumber, ("given", value), shown, RUN, 1, value)


class FaultTest(unittest.TestCase):
    def test_nothing_is_broken_with_all_rules(self):
        answers = deeds = 0
        for seed in range(150):
            row = some_system(seed, None, 160, SHAPES[:6])
            for system in row[::40] + row[-1:]:
                self.assertIsNone(fault(system), seed)
                self.assertIs(is_sound(system), True)
            if seed < 25:
                self.assertEqual(told_faults(row[-1]), [])
            answers += len(row[-1].answers)
            deeds += len(row[-1].deeds)
        self.assertGreater(min(answers, deeds), 200)

    def test_without_a_rule_the_first_one_is_told(self):
        words = {}
        for word in ("stamp", "late", "held", "ceiling", "spread"):
            for seed in range(25):
                system = some_system(seed, word, 120)[-1]
                found = fault(system)
                self.assertEqual(found, first_of(told_faults(system)), (word, seed))
                self.assertIs(is_sound(system), found is None)
                words[found and found[0]] = words.get(found and found[0], 0) + 1
        self.assertLessEqual({None, "answer", "copy", "lent"}, set(words))

    def test_a_lease_in_no_book(self):
        """Without "within" the cache 2 holds a key for longer than the cache 1."""
        run = System(Setup(1, (0, 1), 4, readers=(1, 2)), without="within")
        run = run.run((("read", 0, ASKED, 0), ("hand", 0), ("sync",), ("hand", 1)) + (("beat", (1, 1, 1)),) * 3)
        run = run.run((("read", 1, ASKED, 0), ("hand", 2), ("hand", 3), ("beat", (1, 1, 1))))
        self.assertIsNone(fault(run))
        # The cache 1 still has the cache 2 in its book, and lets its own copy go; then the deed comes.
        late = run.run((("beat", (1, 1, 1)), ("write", 0, DEED), ("hand", 4)))
        self.assertIsNone(fault(late))
        self.assertEqual(fault(late.done(("sync",))), ("copy", 2, "a"))
        self.assertEqual(fault(late.run((("sync",), ("read", 1, ASKED, 0)))), ("answer", 2))

    def test_a_lease_that_the_lender_has_forgotten(self):
        early = (("read", 0, ASKED, 0), ("hand", 0), ("sync",), ("hand", 1), ("fall", 0, ()))
        for word, found in (("ceiling", ("lent", 1, "a")), (None, None)):
            run = System(Setup(1, (0,), 4), without=word).run(early)
            self.assertIsNone(fault(run))
            self.assertEqual(fault(run.done(("rise", 0))), found)
        # The copy is true up to the reading 4, and so long the origin waits.
        for beats in range(7):
            risen = run.run((("rise", 0),) + (("beat", (1, 1)),) * beats)
            self.assertEqual((risen.caches[1].shelf.true_keys(beats), fault(risen)), (("a",) if beats <= 4 else (), None))

    def test_lent_below_a_cache_that_rose(self):
        """A cache that rose waits for T units behind its rising."""
        run = System(Setup(1, (0, 1), 4, readers=(2,)))
        run = run.run((("read", 0, ASKED, 0), ("hand", 0), ("hand", 1), ("sync",), ("hand", 2), ("hand", 3), ("fall", 1, ())))
        self.assertEqual(run.caches[2].shelf.true_keys(0), ("a",))
        for beats in range(5):
            up = run.run((("rise", 1),) + (("beat", (1, 1, 1)),) * beats)
            self.assertEqual((up.caches[2].shelf.true_keys(beats), fault(up)), (("a",), None))

    def test_an_answer_that_a_fall_took_back(self):
        run = System(Setup(1, (0,), 4), without="held")
        run = run.run((("read", 0, ASKED, 0), ("write", 0, DEED), ("hand", 1), ("hand", 0), ("hand", 3)))
        self.assertEqual((run.answers[0][7], fault(run), moment_paper(run, 0)), (5, ("answer", 0), None))
        self.assertIsNone(papers_in_sequence(run, 0))
        # A paper is there as soon as the deed is sure, but it did not stand ahead of this.
        late = run.done(("sync",))
        self.assertEqual((fault(late), moment_paper(late, 0)), (("answer", 0), ("stood", 6, 1)))
        self.assertEqual(papers_in_sequence(late, 0), (("stood", 6, 1),))

    def test_an_answer_of_an_instant_that_a_beat_passes(self):
        """The instants that an answer tells can all be such: the time is that ahead of the beat."""
        run = System(Setup(3, (0,), 12, readers=(1, 1))).run((("read", 0, ASKED, 0), ("hand", 0), ("sync",), ("hand", 1)))
        run = run.run((("beat", (1, 3)), ("beat", (1, 3)), ("read", 1, ASKED, 2)))
        self.assertEqual((run.answers[1][8:], shown(run, 1, 5)), (((4, 2), (4, 3)), ((3, 2), (4, 2), (5, 2))))
        self.assertEqual((fault(run), moment_paper(run, 1), is_moment_paper(run, 1, ("stood", 6, 0))), (None, ("stood", 5, 0), False))

    def test_lows_that_go_back(self):
        """Lows are compared within a life, of which the floor is asked only if it is the life of now."""
        asks = (("read", 0, ("number", 1), 0),)
        run = System(Setup(1, (0,), 4)).run(asks * 3)
        self.assertEqual([answer[8:] for answer in run.answers], [((0, 0), (0, count)) for count in (1, 2, 3)])
        for events in ((), (("fall", 1, ()),), (("fall", 1, ()), ("rise", 1)), (("fall", 1, ()), ("rise", 1)) + asks):
            late = run.run(events)
            first = late.answers[0][:8] + ((0, 1), (0, 1))
            late.answers = (first,) + late.answers[1:]
            self.assertEqual((fault(late), told_faults(late)[:1]), (("floor", 0), [("floor", 0)]))
            late.answers = late.answers[1:]
            self.assertEqual((fault(late), told_faults(late)), (None, []))

    def test_a_deed_that_counts_twice(self):
        """No log is read so [9.2]: here the reading itself is exchanged."""
        run = System(Setup(1, (0,), 4, readers=(1, 1))).run((("write", 1, DEED), ("hand", 0), ("sync",)))
        for numbers, found in ((((1, 1),), None), (((1, 1), (1, 2), (0, 1)), None), (((1, 2), (1, 1), (1, 2), (1, 1)), ("once", 1, 1)),
                               (((1, 1), (0, 3), (1, 1), (0, 3)), ("once", 0, 3))):
            kept = read_log(run.disk.blocks)
            kept.records = tuple(("deed", writer, number, DEED) for writer, number in numbers)
            with mock.patch("wholemoment.run.sound.read_log", lambda blocks: kept):
                self.assertEqual(fault(run), found)

    def test_systems_that_were_tampered_with(self):
        """What no run can break is told, too, if it is not so."""
        rng, words = random.Random(16), {}
        for seed in range(60):
            row = some_system(seed, None, 110, SHAPES[:6])
            for _ in range(20):
                other = tampered(rng, rng.choice(row[20:]))
                if other is not None:
                    found = fault(other)
                    self.assertEqual(found, first_of(told_faults(other)))
                    words[found and found[0]] = words.get(found and found[0], 0) + 1
        self.assertLessEqual({None, "answer", "copy", "lent", "disk", "floor"}, set(words), words)
        self.assertGreater(min(words.values()), 15, words)

    def test_wrong_systems(self):
        for value in ODD:
            for call in (fault, is_sound):
                assert_raises(self, errors.InvalidSystem, None, call, value)


class PaperTest(unittest.TestCase):
    def test_each_answer_has_a_paper(self):
        several = 0
        for seed in range(60):
            system = some_system(seed, None, 160)[-1]
            for index in range(len(system.answers)):
                right = lies(system, index)
                several += len(right) > 1
                self.check_papers(system, index, right)
        self.assertGreater(several, 20)

    def test_papers_without_a_rule(self):
        none = 0
        for seed in range(40):
            system = some_system(seed, ("held", "stamp")[seed % 2], 120)[-1]
            for index in range(len(system.answers)):
                right = lies(system, index)
                none += not right
                self.check_papers(system, index, right)
        self.assertGreater(none, 5)

    def check_papers(self, system, index, right):
        paper = moment_paper(system, index)
        if not right:
            self.assertIsNone(paper)
        else:
            self.assertIs(is_moment_paper(system, index, paper), True)
            self.assertEqual(paper[0], "stood")
        told = {("stood",) + pair for pair in right}
        for pair in right:
            self.assertIs(is_moment_paper(system, index, ("stood",) + pair), True)
        for value in (paper, None, ("stood", 0, 0), ("stood", len(system), len(system.deeds))):
            for near in [value] + list(mutants(value)):
                is_right = type(near) is tuple and len(near) == 3 and all(type(part) is int for part in near[1:]) and near in told
                self.assertIs(is_moment_paper(system, index, near), is_right, near)

    def test_papers_of_one_answer_can_have_unlike_moments(self):
        """[16.6]: a deed on another key comes while the instant of the answer lasts."""
        run = RUN.run((("write", 0, (("b", 6),)), ("hand", 2), ("sync",)))
        self.assertEqual([is_moment_paper(run, 0, ("stood", time, moment)) for time, moment in ((4, 0), (6, 0), (7, 1), (7, 0), (8, 1))],
                         [True, True, True, False, False])

    def test_an_answer_can_be_wrong_when_it_is_told(self):
        """[16.6]: its page stood at an instant that it tells, and not any more when the reader gets it."""
        run = System(Setup(1, (0,), 4, readers=(1, 1))).run((("read", 0, ASKED, 0), ("hand", 0), ("sync",), ("hand", 1)))
        run = run.run((("beat", (1, 1)),) * 5 + (("write", 0, DEED), ("hand", 2), ("sync",), ("read", 1, ASKED, 5)))
        self.assertEqual((run.answers[1][7:], run.deeds, fault(run)), ((0, (0, 2), (4, 3)), (DEED,), None))
        self.assertEqual((moment_paper(run, 1)[2], is_moment_paper(run, 1, ("stood", 13, 1))), (0, False))

    def test_wrong_arguments(self):
        for value in ODD:
            assert_raises(self, errors.InvalidSystem, None, moment_paper, value, -1)
            assert_raises(self, errors.InvalidSystem, None, is_moment_paper, value, -1, None)
            assert_raises(self, errors.InvalidSystem, None, papers_in_sequence, value, -1)
        for value in (-1, 1, True, None, "0", 10 ** 60):
            assert_raises(self, errors.InvalidNumber, ("given", value), moment_paper, RUN, value)
            assert_raises(self, errors.InvalidNumber, ("given", value), is_moment_paper, RUN, value, None)
            assert_raises(self, errors.InvalidNumber, ("given", value), papers_in_sequence, RUN, value)
        assert_raises(self, errors.InvalidNumber, ("given", 0), moment_paper, START, 0)
        for value in ODD:
            self.assertIs(is_moment_paper(RUN, 0, value), False)


class SequenceTest(unittest.TestCase):
    def test_times_never_fall(self):
        rows = 0
        for seed in range(80):
            system = some_system(seed, None, 200)[-1]
            for reader in range(len(system.readers)):
                papers = papers_in_sequence(system, reader)
                self.check_sequence(system, reader, papers)
                rows += len(papers) > 2
        self.assertGreater(rows, 20)

    def check_sequence(self, system, reader, papers):
        mine = [index for index, answer in enumerate(system.answers) if answer[1] == reader]
        last = [index for index in mine if system.answers[index][4] == system.answers[mine[-1]][4]]
        self.assertEqual(len(papers), len(last))
        for index, paper in zip(last, papers):
            self.assertIs(is_moment_paper(system, index, paper), True)
        self.assertTrue(all(early[1] <= late[1] for early, late in zip(papers, papers[1:])))

    def test_a_later_paper_is_taken_behind_an_earlier_one(self):
        """Without "held" the first answer is right only behind the sync: so is then told of the second one, too."""
        run = System(Setup(1, (0,), 4), without="held")
        run = run.run((("read", 0, ASKED, 0), ("write", 0, DEED), ("hand", 1), ("hand", 0), ("hand", 3), ("sync",), ("read", 0, ("number", 1), 0)))
        self.assertEqual((moment_paper(run, 0), moment_paper(run, 1)), (("stood", 6, 1), ("stood", 5, 0)))
        self.assertEqual(papers_in_sequence(run, 0), (("stood", 6, 1), ("stood", 6, 1)))

    def test_papers_that_cannot_be_put_in_sequence(self):
        """The second answer is right only ahead of the paper of the first one."""
        run = System(Setup(1, (0,), 4), without="held")
        run = run.run((("read", 0, ASKED, 0), ("write", 0, DEED), ("hand", 1), ("hand", 0), ("hand", 3), ("sync",), ("read", 0, ("number", 1), 0)))
        answer = run.answers[1]
        run.answers = run.answers[:1] + (answer[:5] + (ASKED, 0, 0) + ((0, 2), (0, 2)),)
        self.assertEqual((moment_paper(run, 1), papers_in_sequence(run, 0)), (("stood", 5, 0), None))

    def test_without_an_answer(self):
        self.assertEqual(papers_in_sequence(START, 0), ())

    def test_what_is_asked_behind_a_done_shows_the_deed(self):
        seen = 0
        for seed in range(80):
            row = some_system(seed, None, 200)
            wrote, asked = {}, {}
            for early, late in zip(row, row[1:]):
                self.note_closed_writes(early, late, wrote)
                for j, (old, new) in enumerate(zip(early.readers, late.readers)):
                    if new.read_number > old.read_number:
                        asked[(j, new.read_number)] = wrote.get(j, 0)
                for answer in late.answers[len(early.answers):]:
                    moments = [moment for _, moment in lies(late, late.answers.index(answer))]
                    self.assertTrue(min(moments) >= asked[answer[1:3]], seed)
                    seen += asked[answer[1:3]] > 0
        self.assertGreater(seen, 40)

    def note_closed_writes(self, early, late, wrote):
        """For each reader the least moment behind the deed whose "done" it heard last."""
        for j, (old, new) in enumerate(zip(early.readers, late.readers)):
            if old.open_write is not None and new.open_write is None:
                self.assertIn(old.open_write[1], late.deeds)
                wrote[j] = max(at + 1 for at, deed in enumerate(late.deeds) if deed == old.open_write[1])

    def test_floors_never_go_back_in_a_life(self):
        for seed in range(40):
            row = some_system(seed, None, 150)
            for early, late in zip(row, row[1:]):
                for old, new in zip(early.readers, late.readers):
                    self.assertGreaterEqual(new.floor[0], old.floor[0])
                    if late.caches[new.place] is not None:
                        self.assertGreaterEqual(new.floor[1], old.floor[1])


if __name__ == "__main__":
    unittest.main()
