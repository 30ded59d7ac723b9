"""Tests of guards and repairs: promises [3], [27] and [31] to [35]."""

import unittest

from fallways.asks import not_whole, some
from fallways.errors import BadGuard, BadPlace, NotTruth
from fallways.histories import disks, outcomes
from fallways.plans import Plan
from fallways.repairs import flushed, guards, least_flushes, least_guards, spared
from fallways.runs import Run
from checks import Checks
from works import NONE, ONE, count_plan, row_plan

NO_NUMBERS = [
    True, False, None, -1, 1.0, "1", "", (), (1,), [], [1], {}, b"1", 10 ** 30, 10 ** 5000, object(), float("nan"),
]


def guarded(hand):
    """Guards are its steps 0, 2, 4 and 5."""
    hand.barrier()
    hand.put("a", 1)
    hand.flush()
    hand.put("a", 2)
    hand.barrier()
    hand.flush()
    hand.put("b", 3)


def guarded_plan(mend=None, **named):
    return Plan(guarded, mend, pages={"b": 0, "a": 0}, **named)


def three_puts(hand):
    hand.put("a", 1)
    hand.put("b", 1)
    hand.put("c", 1)


def three_plan():
    return Plan(three_puts, pages={"a": 0, "b": 0, "c": 0})


def guarded_puts(hand):
    """Guards are its steps 1, 2 and 4."""
    hand.put("a", 1)
    hand.barrier()
    hand.flush()
    hand.put("b", 1)
    hand.barrier()
    hand.put("c", 1)


def guarded_puts_plan():
    return Plan(guarded_puts, pages={"a": 0, "b": 0, "c": 0})


def pages_test(*rows):
    """True for outcomes whose pages have these values, one row for each."""
    def test(told):
        return tuple(value for _, value in told[2]) in rows

    return test


class Guards(Checks):
    def test_barriers_and_flushes(self):
        self.assertEqual(guards(guarded_plan()), [0, 2, 4, 5])
        self.assertEqual(guards(plan=row_plan()), [2])
        self.assertEqual(guards(count_plan()), [])

    def test_only_those_of_the_work(self):
        self.assertEqual(guards(Plan(lambda hand: None, guarded, pages={"a": 0, "b": 0})), [])

    def test_spared_ones_are_none(self):
        plan = spared(guarded_plan(), [4, 0])
        self.assertEqual(guards(plan), [2, 5])
        self.assertEqual(guards(spared(plan, (2, 5))), [])

    def test_flushes_put_in_are_none(self):
        self.assertEqual(guards(flushed(guarded_plan(), [1, 2, 3])), [0, 2, 4, 5])
        self.assertEqual(guards(flushed(spared(guarded_plan(), [2]), [2])), [0, 4, 5])

    def test_looks_and_puts_of_like_words_are_none(self):
        def work(hand):
            hand.look("flush")
            hand.put("barrier", "flush")
            hand.flush()

        self.assertEqual(guards(Plan(work, pages={"flush": 0, "barrier": 0})), [2])

    def test_lists_are_new_each_time(self):
        plan = guarded_plan()
        guards(plan).append(7)
        self.assertEqual(guards(plan), [0, 2, 4, 5])


class Spared(Checks):
    def test_they_do_nothing_and_stay_steps(self):
        plan = guarded_plan()
        for choice in ([], [0], [2], [4, 5], [0, 2, 4, 5]):
            run = Run.of(spared(plan, choice))
            self.like(run.steps(), Run.of(plan).steps())
            self.like((run.end(), run.said()), (Run.of(plan).end(), Run.of(plan).said()))
        self.like(Run.of(spared(plan, [2])).epochs_at(5), [[], [("a", 1), ("a", 2)], []])
        self.like(Run.of(spared(plan, [2, 5])).epochs_at(7), [[], [("a", 1), ("a", 2)], [("b", 3)]])
        self.like(Run.of(spared(plan, [0, 2, 4, 5])).epochs_at(7), [[("a", 1), ("a", 2), ("b", 3)]])
        self.like(Run.of(spared(plan, [5])).flushed_at(7), (("a", 1), ("b", 0)))
        self.like(Run.of(spared(plan, [2, 5])).flushed_at(7), (("a", 0), ("b", 0)))

    def test_the_old_plan_stays_as_it_was(self):
        plan = guarded_plan()
        wanted = repr((disks(plan), Run.of(plan).epochs_at(7)))
        other = spared(plan, [2, 4, 5])
        self.assertIsNot(other, plan)
        self.assertIs(type(other), Plan)
        self.assertEqual(repr((disks(plan), Run.of(plan).epochs_at(7))), wanted)
        self.assertEqual(guards(plan), [0, 2, 4, 5])
        self.assertIsNot(spared(plan, []), plan)

    def test_the_other_parts_are_those_of_the_old_one(self):
        plan = guarded_plan(count_plan().mend, torn=["a"], longest=17, most=300)
        for other in (spared(plan, [2]), spared(spared(plan, [2]), [4]), flushed(plan, [2]), flushed(plan, [])):
            self.assertEqual((other.longest, other.most), (17, 300))
            self.assertEqual((other.names(), other.start()), (plan.names(), plan.start()))
            self.like(Run.mending(other, plan.start()).steps(), Run.mending(plan, plan.start()).steps())

    def test_torn_pages_stay_torn(self):
        def work(hand):
            hand.put("a", (1, 1))
            hand.barrier()

        plan = Plan(work, pages={"a": (0, 0)}, torn=["a"])
        for other in (spared(plan, [1]), flushed(plan, [1])):
            self.assertEqual(Run.of(other).kept_at(1), [((0, 0),), ((0, 1),), ((1, 0),)])

    def test_one_behind_another(self):
        plan = spared(spared(guarded_plan(), [5]), [2])
        self.like(Run.of(plan).epochs_at(7), Run.of(spared(guarded_plan(), [2, 5])).epochs_at(7))
        self.assertEqual(guards(plan), [0, 4])
        plan = spared(flushed(spared(guarded_plan(), [5]), [3]), [2])
        self.like(Run.of(plan).epochs_at(7), [[], [("b", 3)]])
        self.like(Run.of(plan).flushed_at(4), (("a", 2), ("b", 0)))

    def test_lists_tuples_names_and_twice(self):
        wanted = Run.of(spared(guarded_plan(), [2, 5])).epochs_at(7)
        for steps in ((2, 5), [5, 2], [2, 5, 2], (5, 5, 5, 2), [2, 5] * 10000):
            self.like(Run.of(spared(guarded_plan(), steps)).epochs_at(7), wanted)
            self.like(Run.of(spared(steps=steps, plan=guarded_plan())).epochs_at(7), wanted)

    def test_what_is_passed_is_not_changed_nor_kept(self):
        steps = [5, 2]
        plan = spared(guarded_plan(), steps)
        self.assertEqual(steps, [5, 2])
        steps.append(4)
        steps[0] = 0
        self.assertEqual(guards(plan), [0, 4])

    def test_what_is_no_guard(self):
        for step in [*NO_NUMBERS, 1, 3, 6, 7, 99]:
            for steps in ([step], (step,), [2, step, None], [0, 2, 4, 5, step, 1]):
                self.refused(BadGuard, "step", step, spared, guarded_plan(), steps)
        plan = spared(guarded_plan(), [2])
        self.refused(BadGuard, "step", 2, spared, plan, [2])
        self.refused(BadGuard, "step", 2, spared, plan, [4, 2, None])
        self.refused(BadGuard, "step", 0, spared, count_plan(), [0])
        # Behind what is put in there, a step that is no guard is none all the same.
        self.refused(BadGuard, "step", 1, spared, flushed(guarded_plan(), [1]), [1])
        self.refused(BadGuard, "step", 2, spared, flushed(plan, [2]), [2])

    def test_the_mend_s_guards_stay(self):
        def both(hand):
            hand.put("a", hand.look("a") + 1)
            hand.flush()
            hand.put("a", 0)

        plan = Plan(both, both, pages={"a": 0})
        other = spared(plan, [2])
        self.like(Run.of(other).epochs_at(4), [[("a", 1), ("a", 0)]])
        self.like(Run.mending(other, (("a", 5),)).epochs_at(4), [[("a", 0)]])
        self.like(Run.mending(flushed(other, [0, 1, 3]), (("a", 5),)).epochs_at(2), [[("a", 6)]])
        self.like(Run.mending(flushed(other, [0, 1, 3]), (("a", 5),)).epochs_at(4), [[("a", 0)]])


class Flushed(Checks):
    def test_it_is_a_part_of_the_step(self):
        plan = flushed(three_plan(), [1])
        run = Run.of(plan)
        self.like(run.steps(), Run.of(three_plan()).steps())
        self.like([run.epochs_at(moment) for moment in range(4)], [[[]], [[("a", 1)]], [[]], [[("c", 1)]]])
        self.like(run.flushed_at(2), (("a", 1), ("b", 1), ("c", 0)))
        self.assertEqual(run.kept_at(2), [(NONE, NONE, NONE)])
        # No fall comes between the put of b and the flush behind it.
        self.assertNotIn((("a", 0), ("b", 1), ("c", 0)), [disk for disk, _ in run.lefts()])

    def test_behind_looks_and_guards(self):
        def work(hand):
            hand.put("a", 1)
            hand.look("a")
            hand.put("a", 2)
            hand.barrier()
            hand.put("a", 3)
            hand.flush()

        plan = flushed(Plan(work, pages={"a": 0}), [1, 3, 5])
        self.like(
            [Run.of(plan).epochs_at(moment) for moment in range(7)],
            [[[]], [[("a", 1)]], [[]], [[("a", 2)]], [[]], [[("a", 3)]], [[]]],
        )

    def test_behind_a_spared_guard(self):
        for plan in (
            flushed(spared(guarded_plan(), [2]), [2]), spared(flushed(guarded_plan(), [2]), [2]),
        ):
            self.like(Run.of(plan).epochs_at(3), [[]])
            self.like(Run.of(plan).flushed_at(3), (("a", 1), ("b", 0)))

    def test_the_old_plan_stays_as_it_was(self):
        plan = three_plan()
        wanted = repr((disks(plan), Run.of(plan).epochs_at(3)))
        self.assertIsNot(flushed(plan, [0, 1, 2]), plan)
        self.assertEqual(repr((disks(plan), Run.of(plan).epochs_at(3))), wanted)

    def test_one_behind_another(self):
        plan = flushed(flushed(three_plan(), [0]), [1])
        run = Run.of(plan)
        self.like([run.epochs_at(moment) for moment in range(4)], [[[]], [[]], [[]], [[("c", 1)]]])
        again = Run.of(flushed(plan, [1, 0]))
        self.like([again.epochs_at(moment) for moment in range(4)], [[[]], [[]], [[]], [[("c", 1)]]])

    def test_lists_tuples_names_and_twice(self):
        wanted = Run.of(flushed(three_plan(), [0, 2])).epochs_at(2)
        for places in ((0, 2), [2, 0], [0, 2, 0], (2, 2, 0), [0, 2] * 10000):
            self.like(Run.of(flushed(three_plan(), places)).epochs_at(2), wanted)
            self.like(Run.of(flushed(places=places, plan=three_plan())).epochs_at(2), wanted)

    def test_what_is_passed_is_not_changed_nor_kept(self):
        places = [2, 0]
        plan = flushed(three_plan(), places)
        self.assertEqual(places, [2, 0])
        places.append(1)
        self.like(Run.of(plan).epochs_at(2), [[("b", 1)]])

    def test_what_is_no_place(self):
        for place in [*NO_NUMBERS, 3, 4, 99]:
            for places in ([place], (place,), [2, place, None], [0, 1, 2, place, 3]):
                self.refused(BadPlace, "place", place, flushed, three_plan(), places)
                self.refused(BadPlace, "place", place, least_flushes, three_plan(), places, lambda told: False)
        self.refused(BadPlace, "place", 0, flushed, Plan(lambda hand: None, pages={"a": 0}), [0])


class LeastGuards(Checks):
    def test_the_example(self):
        self.assertEqual(least_guards(row_plan(), pages_test((0, 0, True))), [[2]])
        self.assertEqual(least_guards(test=pages_test((0, 1, True)), plan=row_plan()), [[2]])

    def test_nothing_is_bad(self):
        for plan in (row_plan(), guarded_puts_plan(), count_plan()):
            self.assertEqual(least_guards(plan, lambda told: False), [[]])

    def test_all_is_bad(self):
        for plan in (row_plan(), guarded_puts_plan(), count_plan()):
            self.assertEqual(least_guards(plan, lambda told: True), [])

    def test_bad_without_a_fall(self):
        self.assertEqual(least_guards(row_plan(), pages_test((1, 1, True))), [])

    def test_several_choices(self):
        # b without a needs the barrier or the flush between them; c without b the second barrier.
        plan = guarded_puts_plan()
        self.assertEqual(least_guards(plan, pages_test((0, 1, 0))), [[1], [2]])
        self.assertEqual(least_guards(plan, pages_test((1, 0, 1))), [[4]])
        self.assertEqual(least_guards(plan, pages_test((0, 0, 1))), [[1], [2], [4]])
        self.assertEqual(least_guards(plan, pages_test((0, 1, 0), (1, 0, 1))), [[1, 4], [2, 4]])
        self.assertEqual(least_guards(plan, pages_test((0, 0, 1), (1, 0, 1))), [[4]])
        self.assertEqual(least_guards(plan, pages_test((1, 0, 0))), [])

    def test_a_flush_alone_keeps_what_a_barrier_does_not(self):
        def work(hand):
            hand.put("a", 1)
            hand.barrier()
            hand.flush()
            hand.say(1)

        plan = Plan(work, pages={"a": 0})
        self.assertEqual(least_guards(plan, lambda told: told[0] == (1,) and told[2] == (("a", 0),)), [[2]])

    def test_all_are_needed(self):
        def work(hand):
            for page in "abcdef":
                hand.put(page, 1)
                if page != "f":
                    hand.barrier()

        plan = Plan(work, pages={page: 0 for page in "abcdef"})

        def bad(told):
            values = [value for _, value in told[2]]
            return values != sorted(values, reverse=True)

        self.assertEqual(least_guards(plan, bad), [[1, 3, 5, 7, 9]])

    def test_guards_that_were_spared_already_are_no_choice(self):
        plan = guarded_puts_plan()
        bad = pages_test((0, 1, 0))
        self.assertEqual(least_guards(spared(plan, [1]), bad), [[2]])
        self.assertEqual(least_guards(spared(plan, [1, 2]), bad), [])
        self.assertEqual(least_guards(flushed(spared(plan, [1]), [0]), bad), [[]])

    def test_it_is_shut_out_in_the_plan_that_is_told(self):
        plan = guarded_puts_plan()
        bad = pages_test((0, 1, 0), (1, 0, 1))
        for choice in least_guards(plan, bad):
            others = [guard for guard in guards(plan) if guard not in choice]
            self.assertIs(some(spared(plan, others), bad), False)
            for guard in choice:
                self.assertIs(some(spared(plan, others + [guard]), bad), True)

    def test_the_mend_s_guards_stay(self):
        def both(hand):
            hand.put("a", hand.look("b"))
            hand.flush()
            hand.put("b", 1)

        plan = Plan(both, both, pages={"a": 0, "b": 0})
        self.assertEqual(least_guards(plan, pages_test((1, 0))), [[]])

    def test_no_truth(self):
        for thing in (None, 0, 1, "", (), [], 1.0, object()):
            self.refused(NotTruth, "value", thing, least_guards, row_plan(), lambda told: thing)
            self.refused(NotTruth, "value", thing, least_flushes, row_plan(), [0], lambda told: thing)

    def test_lists_are_new_each_time(self):
        told = least_guards(row_plan(), pages_test((0, 0, True)))
        told[0].append(7)
        self.assertEqual(least_guards(row_plan(), pages_test((0, 0, True))), [[2]])


class LeastFlushes(Checks):
    def test_each_place(self):
        plan = three_plan()
        self.assertEqual(least_flushes(plan, [0, 1, 2], pages_test((0, 1, 0))), [[0], [1]])
        self.assertEqual(least_flushes(plan, [0, 1, 2], pages_test((0, 0, 1))), [[0], [1], [2]])
        self.assertEqual(least_flushes(plan, [0, 1, 2], pages_test((1, 0, 1))), [[1], [2]])
        self.assertEqual(least_flushes(plan, [0, 1, 2], pages_test((0, 1, 0), (1, 0, 1))), [[1], [0, 2]])
        self.assertEqual(least_flushes(plan, [0, 2], pages_test((0, 1, 0), (1, 0, 1))), [[0, 2]])
        self.assertEqual(least_flushes(plan, [2], pages_test((0, 1, 0), (1, 0, 1))), [])

    def test_in_any_order_and_twice(self):
        bad = pages_test((0, 1, 0), (1, 0, 1))
        for places in ([2, 0], (0, 2), [2, 2, 0, 2], (0, 0, 2), [2, 0] * 10000):
            self.assertEqual(least_flushes(three_plan(), places, bad), [[0, 2]])
            self.assertEqual(least_flushes(test=bad, places=places, plan=three_plan()), [[0, 2]])
        places = [2, 1, 0]
        least_flushes(three_plan(), places, bad)
        self.assertEqual(places, [2, 1, 0])

    def test_nothing_or_all_is_bad(self):
        for places in ([], [0], [2, 1, 0]):
            self.assertEqual(least_flushes(three_plan(), places, lambda told: False), [[]])
            self.assertEqual(least_flushes(three_plan(), places, lambda told: True), [])
        self.assertEqual(least_flushes(three_plan(), [], pages_test((0, 1, 0))), [])

    def test_the_example_without_its_barrier(self):
        plan = spared(row_plan(), [2])

        def bad(told):
            return tuple(value for _, value in told[2]) not in ((0, 0, False), (1, 1, True))

        self.assertEqual(least_flushes(plan, [0, 1, 2, 3], bad), [[1], [2], [3]])
        for place in (1, 2, 3):
            self.assertIsNone(not_whole(flushed(plan, [place])))
        self.assertEqual(not_whole(flushed(plan, [0])), [(4, (NONE, NONE, ONE))])

    def test_of_plans_that_were_made_so_already(self):
        bad = pages_test((0, 1, 0), (1, 0, 1))
        self.assertEqual(least_flushes(flushed(three_plan(), [0]), [0, 1, 2], bad), [[1], [2]])
        self.assertEqual(least_flushes(flushed(three_plan(), [1]), [0, 1, 2], bad), [[]])
        plan = spared(guarded_puts_plan(), [1, 2, 4])
        self.assertEqual(least_flushes(plan, [0, 1, 2, 3, 5], bad), [[3], [0, 5], [1, 5], [2, 5]])

    def test_lists_are_new_each_time(self):
        told = least_flushes(three_plan(), [0, 1], pages_test((0, 1, 0)))
        told[0].append(7)
        told.clear()
        self.assertEqual(least_flushes(three_plan(), [0, 1], pages_test((0, 1, 0))), [[0], [1]])


class Together(Checks):
    def test_outcomes_of_spared_and_flushed_plans(self):
        plan = spared(row_plan(), [2])
        self.assertEqual(len(outcomes(plan)), 5)
        self.assertEqual(len(outcomes(flushed(plan, [1]))), 2)
        self.like(
            [told for told, _ in outcomes(flushed(plan, [1]))], [told for told, _ in outcomes(row_plan())]
        )
        self.assertEqual(not_whole(plan), [(4, (NONE, NONE, ONE))])


if __name__ == "__main__":
    unittest.main()
