"""Tests of plans at the limits: promises [5], [8], [33] and [35]."""

import unittest

from fallways.asks import every, first, not_settled, not_whole, some
from fallways.errors import Beyond
from fallways.histories import disks, is_closed, left, outcome, outcomes
from fallways.plans import Plan
from fallways.repairs import flushed, guards, least_flushes, least_guards, spared
from fallways.runs import Run
from checks import Checks

NAMES = "abcdef"


def wide_work(hand):
    """Six pages, five guards, sixty steps."""
    hand.say(1)
    for name in NAMES:
        hand.put(name, 1)
        if name != "f":
            hand.barrier()
    hand.say(2)
    for _ in range(49):
        hand.look("a")


def wide_mend(hand):
    """It takes every disk of three values for each page to another, and comes to sixty steps, too."""
    seen = [hand.look(name) for name in NAMES]
    for at, name in enumerate(NAMES):
        hand.put(name, (seen[at] + seen[at - 1] + 1) % 3)
    hand.flush()
    for _ in range(47):
        hand.look("b")


def wide_plan():
    return Plan(wide_work, wide_mend, pages={name: 0 for name in NAMES}, longest=60, most=2000)


def pages_of(told):
    return [value for _, value in told[2]]


class Limits(Checks):
    def test_hundreds_of_disks(self):
        plan = wide_plan()
        self.assertEqual(len(Run.of(plan).steps()), 60)
        self.assertEqual(len(Run.mending(plan, plan.start()).steps()), 60)
        rows = [disk for disk, _ in disks(plan)]
        self.assertEqual(len(rows), 3 ** 6)
        self.assertIs(is_closed(plan, rows[::-1]), True)
        self.assertIs(is_closed(plan, rows[:-1]), False)
        pairs = outcomes(plan)
        for told, history in pairs[::97]:
            self.like(outcome(plan, history), told)
        for disk, history in disks(plan)[::97]:
            self.like(left(plan, history), disk)
        self.assertIs(every(plan, lambda told: len(pages_of(told)) == 6), True)
        self.assertIs(some(plan, lambda told: told == pairs[-1][0]), True)
        self.assertEqual(first(plan, lambda told: told == pairs[-1][0]), pairs[-1][1])
        self.assertIsNotNone(not_whole(plan))
        self.assertIsNotNone(not_settled(plan))

    def test_five_guards_and_five_places(self):
        plan = wide_plan()
        self.assertEqual(guards(plan), [1, 3, 5, 7, 9])
        self.assertEqual(least_guards(plan, lambda told: False), [[]])
        self.assertEqual(least_guards(plan, lambda told: pages_of(told) == [2] * 6), [])
        self.assertEqual(least_flushes(plan, [8, 6, 4, 2, 0], lambda told: told[0] == (1, 2) and told[1] == 5), [[]])
        self.assertEqual(least_flushes(plan, [8, 6, 4, 2, 0], lambda told: pages_of(told) == [2] * 6), [])

    def test_all_choices_of_five(self):
        def work(hand):
            for name in NAMES:
                hand.put(name, 1)
                if name != "f":
                    hand.barrier()

        plan = Plan(work, pages={name: 0 for name in NAMES}, most=2000)

        def bad(told):
            return pages_of(told) != sorted(pages_of(told), reverse=True)

        self.assertEqual(least_guards(plan, bad), [[1, 3, 5, 7, 9]])
        freed = spared(plan, guards(plan))
        self.assertEqual(len(disks(freed)), 2 ** 6)
        self.assertEqual(least_flushes(freed, [0, 2, 4, 6, 8], bad), [[0, 4, 8], [2, 4, 8], [2, 6, 8]])
        self.assertIs(every(flushed(freed, [2, 4, 8]), lambda told: not bad(told)), True)
        self.assertIs(every(flushed(freed, [0, 2, 6, 8]), lambda told: not bad(told)), True)
        self.assertIs(every(flushed(freed, [0, 2, 4, 6]), lambda told: not bad(told)), False)

    def test_a_thousand_falls_one_behind_another(self):
        def count(hand):
            hand.put("a", min(hand.look("a") + 1, 1000))

        plan = Plan(count, count, pages={"a": 0}, most=1001)
        last = disks(plan)[-1]
        self.assertEqual(last[0], (("a", 1000),))
        self.assertEqual(last[1], [(2, ((1, 0),))] * 1000)
        self.assertEqual(left(plan, last[1]), last[0])
        self.assertEqual(len(outcomes(plan)), 1000)
        self.assertEqual(not_whole(plan), [(2, ((1, 0),))] * 2)

    def test_long_runs_of_many_puts_are_told_without_their_falls(self):
        def work(hand):
            for at in range(60):
                hand.put(NAMES[at % 6], at)

        plan = Plan(work, pages={name: 0 for name in NAMES}, longest=60)
        run = Run.of(plan)
        self.assertEqual(len(run.steps()), 60)
        self.assertEqual(len(run.epochs_at(60)[0]), 60)
        self.assertEqual(run.pages_at(60)[5], ("f", 59))
        self.assertEqual(guards(plan), [])
        self.assertEqual(len(Run.of(flushed(plan, list(range(60)))).lefts()), 60)
        # It is given up long before all its millions of falls are made.
        self.assertRaises(Beyond, outcomes, plan)
        self.assertRaises(Beyond, least_flushes, plan, [0], lambda told: False)

    def test_values_at_the_limits(self):
        value = (10 ** 12 - 1, "x" * 20, ((((),),),), *range(5))

        def work(hand):
            hand.put("abcdefgh", value)
            hand.say(value)
            return value

        plan = Plan(work, pages={"abcdefgh": value[::-1]}, torn=["abcdefgh"])
        self.assertEqual(len(Run.of(plan).kept_at(1)), 9)
        self.assertEqual(len(disks(plan)), 9)
        self.like(outcomes(plan)[0], (((value,), ("told", value), (("abcdefgh", value),)), []))


if __name__ == "__main__":
    unittest.main()
