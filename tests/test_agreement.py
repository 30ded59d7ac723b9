"""Tests of what must agree, over several works, and of the example: promises [24] and [36] to [39]."""

import unittest

from fallways.asks import every, not_settled, not_whole
from fallways.histories import disks, is_closed, left, outcome, outcomes
from fallways.plans import Plan
from fallways.repairs import flushed, guards, spared
from fallways.runs import Run
from checks import Checks
from model import some_plan
from works import NONE, ONE, count_plan, row_plan, say_work

SEEDS = range(60)


class Guarding:
    """A hand that asks for a guard behind each put, or ahead of each guard and behind it."""

    def __init__(self, hand, put=(), barrier=("barrier",), flush=("flush",)):
        self.hand = hand
        self.words = {"put": put, "barrier": barrier, "flush": flush}
        self.look, self.say, self.fail = hand.look, hand.say, hand.fail

    def done(self, word):
        for guard in self.words[word]:
            getattr(self.hand, guard)()

    def put(self, page, value):
        self.hand.put(page, value)
        self.done("put")

    def barrier(self):
        self.done("barrier")

    def flush(self):
        self.done("flush")


def guarding(plan, **words):
    """The plan with other guards; no page of it may be torn if none of the plan's may."""
    return Plan(
        lambda hand: plan.work(Guarding(hand, **words)), plan.mend, pages=dict(plan.start()),
        torn=plan.torn, longest=60, most=2000,
    )


def some_plans():
    plans = [row_plan(), count_plan(), Plan(say_work, pages={"a": 0})]
    return plans + [some_plan(seed) for seed in SEEDS]


def untorn(plan):
    return Plan(plan.work, plan.mend, pages=dict(plan.start()), most=2000)


def left_disks(plan):
    return [disk for disk, _ in Run.of(plan).lefts()]


def words(things):
    return {repr(thing) for thing in things}


class Agreement(Checks):
    def test_a_flush_behind_each_put(self):
        for plan in some_plans():
            plan = guarding(untorn(plan), put=("flush",))
            run = Run.of(plan)
            seen = [run.pages_at(moment) for moment in range(len(run.steps()) + 1)]
            self.assertEqual(words(left_disks(plan)), words(seen))

    def test_a_flush_put_in_behind_each_put(self):
        for plan in some_plans():
            plan = untorn(plan)
            run = Run.of(plan)
            places = [number for number, (wish, _) in enumerate(run.steps()) if wish[0] == "put"]
            seen = [run.pages_at(moment) for moment in range(len(run.steps()) + 1)]
            self.assertEqual(words(left_disks(flushed(plan, places))), words(seen))

    def test_a_barrier_behind_each_put(self):
        for plan in some_plans():
            run = Run.of(guarding(untorn(plan), put=("barrier",)))
            flush = 0
            for moment in range(len(run.steps()) + 1):
                if moment > 0 and run.steps()[moment - 1][0] == ("flush",):
                    flush = moment
                told = [run.left_by((moment, kept)) for kept in run.kept_at(moment)]
                seen = [run.pages_at(at) for at in range(flush, moment + 1)]
                self.assertEqual(words(told), words(seen))

    def test_a_guard_more_leaves_nothing_more(self):
        for plan in some_plans():
            held = words(left_disks(plan))
            for guard in ("barrier", "flush"):
                for more in (
                    guarding(plan, put=(guard,)), guarding(plan, barrier=(guard, "barrier")),
                    guarding(plan, flush=("flush", guard)),
                ):
                    self.assertLessEqual(words(left_disks(more)), held)
                    self.assertLessEqual(words([disk for disk, _ in disks(more)]), words([d for d, _ in disks(plan)]))
            for guard in guards(plan):
                self.assertLessEqual(held, words(left_disks(spared(plan, [guard]))))

    def test_a_barrier_right_behind_a_guard_changes_nothing(self):
        for plan in some_plans():
            more = guarding(plan, barrier=("barrier", "barrier"), flush=("flush", "barrier"))
            self.like(left_disks(more), left_disks(plan))
            self.like([disk for disk, _ in disks(more)], [disk for disk, _ in disks(plan)])

    def test_a_mend_that_does_nothing(self):
        for plan in some_plans():
            for mend in (None, lambda hand: None):
                idle = Plan(plan.work, mend, pages=dict(plan.start()), torn=plan.torn)
                self.assertTrue(all(len(history) <= 1 for _, history in outcomes(idle)))
                pages = words([told[2] for told, _ in outcomes(idle)])
                self.assertEqual(pages, words(left_disks(idle)))

    def test_histories_that_leave_the_same_go_on_alike(self):
        for plan in some_plans():
            found = {}
            run = Run.of(plan)
            for moment in range(len(run.steps()) + 1):
                for kept in run.kept_at(moment):
                    fall = (moment, kept)
                    key = repr((run.left_by(fall), run.said_by(moment)))
                    other = found.setdefault(key, fall)
                    self.like(outcome(plan, [fall]), outcome(plan, [other]))
                    again = Run.mending(plan, left(plan, [fall])).lefts()[-1][1]
                    self.like(outcome(plan, [fall, again]), outcome(plan, [other, again]))

    def test_the_disks_are_closed(self):
        for plan in some_plans():
            self.assertIs(is_closed(plan, [disk for disk, _ in disks(plan)]), True)


class Example(Checks):
    def plan_of(self, names, before, after, mark, torn=()):
        one, two, note = names

        def work(hand):
            hand.put(one, after)
            hand.put(two, after)
            hand.barrier()
            hand.put(note, mark)

        def mend(hand):
            if hand.look(note) != mark:
                hand.put(one, before)
                hand.put(two, before)
                hand.flush()

        return Plan(work, mend, pages={one: before, two: before, note: None}, torn=torn)

    def test_as_the_document_tells_it(self):
        self.assertIsNone(not_whole(row_plan()))
        self.assertEqual(not_whole(spared(row_plan(), [2])), [(4, ((0, 0), (0, 0), (1, 0)))])

    def test_with_other_values_names_and_marks(self):
        for before, after, mark in (
            (0, 1, True), ("old", "new", "yes"), ((1, 2), (3, 4), (5,)), (True, 1, 0), (None, (), False),
        ):
            plan = self.plan_of(("a", "b", "done"), before, after, mark, torn=["a", "b"])
            self.assertIsNone(not_whole(plan))
            self.assertIsNone(not_settled(plan))
            self.assertEqual(not_whole(spared(plan, [2])), [(4, (NONE, NONE, ONE))])
            plan = self.plan_of(("zz", "m", "b"), before, after, mark)
            self.assertIsNone(not_whole(plan))
            self.assertEqual(not_whole(spared(plan, [2])), [(4, (ONE, NONE, NONE))])

    def test_all_or_nothing_in_its_outcomes(self):
        def whole(told):
            return told[2] in ((("a", 0), ("b", 0), ("done", False)), (("a", 1), ("b", 1), ("done", True)))

        self.assertIs(every(row_plan(), whole), True)
        self.assertIs(every(spared(row_plan(), [2]), whole), False)


if __name__ == "__main__":
    unittest.main()
