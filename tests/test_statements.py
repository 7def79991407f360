"""The main statements [0.15] to [0.20], over the whole program: whole runs against a foe."""

import random
import unittest

from drawn_runs import SHAPES, some_system
from told_knowledge import ToldKnowledge
from told_sound import told_faults, told_shown
from wholemoment.cache.copies import Copy
from wholemoment.cache.moments import stretch
from wholemoment.disk.log import record_in
from wholemoment.house.desk import Desk
from wholemoment.judge.needed import broken_run, system_of
from wholemoment.know.views import is_view, is_world, page_stands, either, told_stretch
from wholemoment.lend.cache import RULES
from wholemoment.lend.setups import Setup, path_of
from wholemoment.run.calm import calm, most_rounds, quiet_rounds
from wholemoment.run.sound import fault
from wholemoment.run.systems import System
from wholemoment.store.deeds import behind
from wholemoment.store.questions import answer_of_page, keys_of, plain_answer

ASKED, DEED = ("key", "a"), (("a", 5),)


def desk_of(system):
    made = Desk(system.setup, without=system.without)
    made.do(system.events)
    return made


class OneMomentTest(unittest.TestCase):
    """[0.15]"""

    def test_with_all_rules(self):
        answers = 0
        for seed in range(80):
            row = some_system(seed, None, 150, SHAPES[:6])
            made = desk_of(row[-1])
            for index, answer in enumerate(row[-1].answers):
                self.check_answer(row, made.page(index), answer)
                answers += 1
        self.assertGreater(answers, 120)

    def check_answer(self, row, page, answer):
        event, j, number, cache, life, question, age, value, low, high = answer
        system = row[-1]
        self.assertEqual((sorted(page), answer_of_page(question, page)), (list(keys_of(question)), value))
        times = [time for time, now in enumerate(system.instants(cache)) if now is not None and now[0] == life
                 and any(low[0] <= x <= high[0] and low[1] <= k <= high[1] for x, k in told_shown(system, cache, time))]
        self.assertTrue(times)
        for time in times:
            state = behind(system.deeds[:system.moments[time]])
            self.assertEqual({key: state.get(key) for key in page}, page)
        # Not ahead of what its reader had seen when it asked, and not older than asked.
        asked = [early for early, late in zip(row, row[1:]) if early.readers[j].read_number < number <= late.readers[j].read_number]
        floor = asked[0].readers[j].floor
        self.assertTrue(low[0] >= floor[0] and low[1] >= floor[1])
        self.assertGreaterEqual(low[0], row[event].clocks[cache] - age)

    def test_without_each_rule_a_told_run_breaks_it(self):
        for word in RULES:
            system = system_of(broken_run(word), without=word)
            _, index = fault(system)
            answer = system.answers[index]
            times = [time for time, now in enumerate(system.instants(answer[3])) if now is not None and now[0] == answer[4]
                     and any(answer[8][0] <= x <= answer[9][0] and answer[8][1] <= k <= answer[9][1] for x, k in told_shown(system, answer[3], time))]
            values = [plain_answer(answer[5], behind(system.deeds[:system.moments[time]])) for time in times]
            self.assertFalse(values and all(value == answer[7] for value in values), word)


class ExactlyTest(unittest.TestCase):
    """[0.16]"""

    def test_with_all_rules(self):
        told = {True: 0, False: 0}
        for seed in range(160):
            self.walk(some_system(seed, None, 110), told)
        self.assertGreater(min(told.values()), 60)

    def walk(self, row, told):
        known = {number: ToldKnowledge(number) for number in row[0].caches}
        for early, late in zip(row, row[1:]):
            for number, knowledge in known.items():
                now = knowledge.take(early, late)
                if now is not None:
                    self.check_event(early, late, knowledge, now, told)

    def check_event(self, early, late, knowledge, now, told):
        cache = late.caches[knowledge.number]
        answered = {answer[1]: answer for answer in late.answers[len(early.answers):]}
        asked = [read for read in early.caches[knowledge.number].reads + cache.reads]
        for j, answer in answered.items():
            if not any(read[:2] == (j, answer[2]) for read in asked):
                asked.append((j, answer[2], answer[5], answer[6], early.readers[j].floor))
        for j, number, question, age, floor in set(asked):
            keys = keys_of(question)
            if all(key in cache.shelf for key in keys):
                view = knowledge.view(cache, late.setup.spread, keys, now, age, floor)
                # A view tells a floor by its event alone.
                if view is not None and (floor[0] == view[1][floor[1]] or floor[0] <= view[1][-1] - age):
                    is_answered = j in answered and answered[j][2] == number
                    self.check_view(view, answered[j][8:] if is_answered else None)
                    told[is_answered] += 1

    def check_view(self, view, answer):
        self.assertTrue(is_view(view), view)
        self.assertEqual(told_stretch(view), answer, view)
        if answer is None:
            word, world = either(view)
            self.assertEqual((word, is_world(view, world), page_stands(view, world)), ("world", True, None))

    def test_without_a_rule_a_cache_answers_though_a_world_parts(self):
        """Without "common" two copies are apart, and the answer of both is told."""
        a, b = ("a", None, ((0, 1, 4),), None), ("b", 6, ((2, 3, 4),), None)
        view = (1, (0, 0, 5, 5, 5), (a, b), 9, 0)
        self.assertTrue(is_view(view))
        self.assertEqual((told_stretch(view), either(view)[0]), (None, "world"))
        self.assertEqual(system_of(broken_run("common"), without="common").answers[-1][7:], (6, (5, 5), (5, 5)))


class LentTest(unittest.TestCase):
    """[0.17]"""

    def test_with_all_rules(self):
        held = 0
        for seed in range(60):
            row = some_system(seed, None, 130, SHAPES[:6])
            for system in row:
                held += self.check_held(system)
            for early, late in zip(row, row[1:]):
                self.check_deeds(early, late)
        self.assertGreater(held, 2000)

    def check_held(self, system):
        held = 0
        for number, cache in system.caches.items():
            for key in cache.shelf.true_keys(system.clocks[number]) if cache is not None else ():
                child = number
                for machine in path_of(system.setup.parents, number):
                    self.assertTrue(self.keeps(system, machine, child, key), (machine, child, key))
                    child = machine
                    held += 1
        return held

    def keeps(self, system, machine, child, key):
        lender = system.caches[machine] if machine else system.origin
        if lender is None or lender.book.lent.get((child, key), (0, -1))[1] >= system.clocks[machine]:
            return True
        waits_to = lender.free_from if machine == 0 else lender.since
        return waits_to is not None and system.clocks[machine] <= waits_to + (system.setup.term if machine else 0)

    def check_deeds(self, early, late):
        """No deed that is put touches a key that somebody holds as true."""
        for block in late.disk.blocks[len(early.disk.blocks):]:
            record = record_in(block)
            if late.events[-1][0] in ("hand", "look") and record is not None and record[0] == "deed":
                for number, cache in late.caches.items():
                    true = cache.shelf.true_keys(late.clocks[number]) if cache is not None else ()
                    self.assertFalse(set(true) & {key for key, _ in record[3]})

    def test_without_rules_it_breaks(self):
        words = set()
        for word in ("stamp", "late", "spread", "ceiling"):
            for seed in range(60):
                words |= {word} if any(told[0] == "lent" for told in told_faults(some_system(seed, word, 90)[-1])) else set()
        self.assertLessEqual({"stamp", "late"}, words)


class InTimeTest(unittest.TestCase):
    """[0.18]"""

    def test_a_lease_is_held_for_so_many_units_and_not_one_more(self):
        for spread in range(1, 7):
            for term in (1, 2, 5, 12, 200):
                system = System(Setup(spread, (0,), term)).run((("read", 0, ASKED, 0), ("hand", 0), ("sync",), ("hand", 1)))
                self.assertEqual(system.caches[1].shelf.kept("a").last, term // spread)
                slow = system.run((("beat", (spread, 1)),) * (term // spread))
                self.assertEqual((slow.caches[1].shelf.true_keys(slow.clocks[1]), slow.origin.book.holders("a", slow.clocks[0])), (("a",), (1,)))
                later = slow.done(("beat", (spread, 1)))
                self.assertEqual((later.caches[1].shelf.true_keys(later.clocks[1]), later.origin.book.holders("a", later.clocks[0])), ((), ()))

    def test_in_a_calm_all_is_done_in_time(self):
        for seed in range(40):
            system = some_system(seed, None, 100, SHAPES)[-1]
            after = system.run(calm(system))
            self.assertLessEqual(quiet_rounds(system, calm(system)), most_rounds(system))
            for early, late in zip(system.readers, after.readers):
                self.assertEqual((late.open_read, late.open_write), (None, None))
                if early.open_write is not None:
                    self.assertIn(early.open_write[1], after.deeds)
                if early.open_read is not None and system.caches[early.place] is not None:
                    self.assertIn((early.number, early.open_read[0]), [answer[1:3] for answer in after.answers])


class NeededTest(unittest.TestCase):
    """[0.19]"""

    def test_each_rule_is_needed(self):
        for word in RULES:
            self.assertEqual(fault(system_of(broken_run(word), without=word))[0], "answer", word)
            self.assertIsNone(fault(system_of(broken_run(word))))

    def test_the_same_foe_with_all_rules_and_without(self):
        rng, broken = random.Random(19), set()
        for word in ("stamp", "late", "held"):
            for _ in range(30):
                seed = rng.randrange(1000)
                self.assertIsNone(fault(some_system(seed, None, 90)[-1]))
                broken |= {word} if fault(some_system(seed, word, 90)[-1]) is not None else set()
        self.assertEqual(broken, {"stamp", "late", "held"})


class NotTrueTest(unittest.TestCase):
    """[0.20]"""

    def test_an_answer_need_not_be_the_newest(self):
        made = Desk(Setup(1, (0,), 4, readers=(1, 1)))
        made.do((("read", 0, ASKED, 0), ("hand", 0), ("sync",), ("hand", 1)) + (("beat", (1, 1)),) * 5)
        made.do((("write", 0, DEED), ("hand", 2), ("sync",), ("read", 1, ASKED, 5)))
        self.assertEqual((made.system.answers[-1][7], made.page(1), made.moments_of(1), made.history.at(1)), (0, {"a": None}, ((0, 0),), {"a": 5}))
        self.assertIsNone(fault(made.system))

    def test_two_caches_can_answer_unlike_at_one_beat(self):
        """One still has an old answer, within its age; the other one asks, and sees the deed."""
        run = System(Setup(1, (0, 0), 4, readers=(1, 1, 2))).run((("read", 0, ASKED, 0), ("hand", 0), ("sync",), ("hand", 1)))
        run = run.run((("beat", (1, 1, 1)),) * 5 + (("write", 0, DEED), ("hand", 2), ("sync",)))
        run = run.run((("read", 1, ASKED, 9), ("read", 2, ASKED, 9), ("hand", 4), ("sync",), ("hand", 5)))
        self.assertEqual([(answer[1], answer[7]) for answer in run.answers], [(0, 0), (1, 0), (2, 5)])
        self.assertIsNone(fault(run))

    def test_a_copy_whose_key_was_recalled_can_still_be_true(self):
        run = System(Setup(1, (0, 1), 9, readers=(2, 1)))
        run = run.run((("read", 0, ASKED, 0), ("hand", 0), ("hand", 1), ("sync",), ("hand", 2), ("hand", 3), ("write", 0, DEED), ("hand", 4),
                       ("sync",), ("hand", 5)))
        self.assertEqual((run.caches[1].owed, run.caches[1].shelf.true_keys(0)), (("a",), ("a",)))
        told = run.done(("read", 1, ASKED, 0))
        self.assertEqual((told.answers[-1][1], told.answers[-1][7], fault(told)), (1, 0, None))

    def test_a_greater_term_need_not_make_a_deed_slower(self):
        for term in (1, 200):
            run = System(Setup(2, (0,), term)).run((("write", 0, DEED), ("hand", 0), ("sync",), ("hand", 1)))
            self.assertEqual((run.deeds, run.readers[0].open_write), ((DEED,), None))

    def test_copies_that_were_true_one_by_one_need_not_have_been_true_together(self):
        copies = (Copy("a", None, (0, 1), 4), Copy("b", 6, (5, 3), 9))
        self.assertIsNone(stretch(copies, (5, 4)))


if __name__ == "__main__":
    unittest.main()
