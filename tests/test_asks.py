"""Tests of what is asked of all outcomes: promises [27] to [29]."""

import unittest

from fallways.asks import every, first, not_settled, not_whole, some
from fallways.errors import NotTruth
from fallways.histories import outcome, outcomes
from fallways.plans import Plan
from fallways.repairs import spared
from checks import Checks
from works import NONE, ONE, count_plan, page, row_plan

NO_TRUTHS = [None, 0, 1, 2, "", "True", (), (True,), [], [False], 0.0, 1.0, {}, object(), NotTruth, b"1"]


class Noting:
    """A test that notes what it is called with, and answers as a list tells."""

    def __init__(self, *answers):
        self.answers = answers
        self.called = []

    def __call__(self, told):
        self.called.append(told)
        return self.answers[len(self.called) - 1]


class Tests(Checks):
    def setUp(self):
        self.plan = count_plan()
        self.told = [told for told, _ in outcomes(self.plan)]
        self.histories = [history for _, history in outcomes(self.plan)]

    def check(self, call, answers, wanted):
        """The test is called with the outcomes in their order, one for each of these answers."""
        test = Noting(*answers)
        told = call(self.plan, test)
        self.assertEqual(told, wanted)
        self.assertIs(type(told), type(wanted))
        self.like(test.called, self.told[:len(answers)])

    def test_every(self):
        self.check(every, [True] * 5, True)
        for at in range(5):
            self.check(every, [True] * at + [False], False)

    def test_some(self):
        self.check(some, [False] * 5, False)
        for at in range(5):
            self.check(some, [False] * at + [True], True)

    def test_first(self):
        self.check(first, [False] * 5, None)
        for at in range(5):
            self.check(first, [False] * at + [True], self.histories[at])
        self.check(first, [True], [])

    def test_by_name(self):
        self.assertIs(every(test=lambda told: True, plan=self.plan), True)
        self.assertIs(some(test=lambda told: True, plan=self.plan), True)
        self.assertEqual(first(test=lambda told: told[2] == page(3), plan=self.plan), self.histories[3])

    def test_no_truth(self):
        for thing in NO_TRUTHS:
            for at in range(5):
                test = Noting(*[True] * at, thing)
                self.refused(NotTruth, "value", thing, every, self.plan, test)
                self.like(test.called, self.told[:at + 1])
                for call in (some, first):
                    test = Noting(*[False] * at, thing)
                    self.refused(NotTruth, "value", thing, call, self.plan, test)
                    self.like(test.called, self.told[:at + 1])

    def test_behind_what_decides_no_test_is_called(self):
        for thing in NO_TRUTHS:
            self.check(every, [True, False], False)
            self.assertIs(every(self.plan, Noting(True, False, thing)), False)
            self.assertIs(some(self.plan, Noting(False, True, thing)), True)
            self.assertEqual(first(self.plan, Noting(False, True, thing)), self.histories[1])

    def test_the_history_shows_it(self):
        plan = spared(row_plan(), [2])

        def test(told):
            return dict(told[2]) == {"a": 0, "b": 1, "done": True}

        self.assertEqual(first(plan, test), [(4, (NONE, ONE, ONE))])
        self.assertEqual(outcome(plan, first(plan, test))[2], (("a", 0), ("b", 1), ("done", True)))
        self.assertIsNone(first(row_plan(), test))

    def test_histories_are_new_lists_each_time(self):
        def test(told):
            return told[2] == page(3)

        told = first(self.plan, test)
        told.append("z")
        self.assertEqual(first(self.plan, test), self.histories[3])

    def test_a_test_may_ask_about_plans_itself(self):
        def test(told):
            return len(outcomes(self.plan)) == 5 and some(row_plan(), lambda other: True)

        self.assertIs(every(self.plan, test), True)


class NotWhole(Checks):
    def test_the_example(self):
        self.assertIsNone(not_whole(row_plan()))
        self.assertIsNone(not_whole(plan=row_plan()))
        self.assertEqual(not_whole(spared(row_plan(), [2])), [(4, (NONE, NONE, ONE))])

    def test_without_a_mend(self):
        plan = Plan(lambda hand: hand.put("a", 1), pages={"a": 0})
        self.assertIsNone(not_whole(plan))

        def work(hand):
            hand.put("a", 1)
            hand.put("b", 1)

        self.assertEqual(not_whole(Plan(work, pages={"a": 0, "b": 0})), [(1, (ONE, NONE))])

    def test_before_and_after_are_those_behind_a_mend(self):
        # Nothing comes to 1 by the mend, all to 2; so the pages at first and at the end are neither.
        def work(hand):
            hand.put("a", 5)

        def mend(hand):
            if hand.look("a") in (0, 5):
                hand.put("a", {0: 1, 5: 2}[hand.look("a")])

        self.assertIsNone(not_whole(Plan(work, mend, pages={"a": 0})))

    def test_torn_values_are_neither(self):
        def work(hand):
            hand.put("a", (1, 1))

        plan = Plan(work, pages={"a": (0, 0)}, torn=["a"])
        self.assertEqual(not_whole(plan), [(1, ((0, 1),))])
        self.assertIsNone(not_whole(Plan(work, pages={"a": (0, 0)})))

    def test_equal_and_not_the_same(self):
        def work(hand):
            hand.put("a", True)
            hand.put("a", 2)

        self.assertEqual(not_whole(Plan(work, pages={"a": 1})), [(1, (ONE,))])
        self.assertIsNone(not_whole(Plan(work, pages={"a": True})))

    def test_said_and_ends_do_not_count(self):
        def work(hand):
            hand.say(1)
            hand.put("a", 1)
            hand.say(2)

        def mend(hand):
            return hand.look("a")

        self.assertIsNone(not_whole(Plan(work, mend, pages={"a": 0})))

    def test_behind_several_falls(self):
        # Only a fall within the mend of a fall leaves 3, which no mend changes.
        def work(hand):
            hand.put("a", 1)

        def mend(hand):
            if hand.look("a") == 1:
                hand.put("a", 3)
                hand.flush()
                hand.put("a", 0)

        plan = Plan(work, mend, pages={"a": 0})
        self.assertEqual(not_whole(plan), [(1, (ONE,)), (2, (ONE,))])

    def test_not_the_empty_history(self):
        # The work's own end is neither, but behind every fall the mend undoes it.
        def work(hand):
            hand.put("a", 1)

        def mend(hand):
            hand.put("a", 0)

        self.assertIsNone(not_whole(Plan(work, mend, pages={"a": 0})))

    def test_an_outcome_that_the_empty_history_has_too(self):
        # The work ends with 7; the fall that keeps the first put is mended to 7 as well, which is neither.
        def work(hand):
            hand.put("a", 1)
            hand.put("a", 7)

        def mend(hand):
            hand.put("a", {0: 0, 1: 7, 7: 0}[hand.look("a")])

        plan = Plan(work, mend, pages={"a": 0})
        self.assertEqual(outcomes(plan)[0], (((), ("told", None), page(7)), []))
        self.assertEqual(not_whole(plan), [(1, (ONE,))])

    def test_after_keeps_all_that_is_late_at_the_end(self):
        def work(hand):
            hand.put("a", 1)
            hand.flush()
            hand.put("a", 2)

        def mend(hand):
            if hand.look("a") == 1:
                hand.put("a", 0)

        self.assertEqual(not_whole(Plan(work, pages={"a": 0})), [(1, (ONE,))])
        self.assertIsNone(not_whole(Plan(work, mend, pages={"a": 0})))


class NotSettled(Checks):
    def test_settled(self):
        self.assertIsNone(not_settled(row_plan()))
        self.assertIsNone(not_settled(plan=row_plan()))
        self.assertIsNone(not_settled(Plan(lambda hand: hand.put("a", 1), pages={"a": 0})))

    def test_least_history(self):
        self.assertEqual(not_settled(count_plan()), [(0, (NONE,))])

        def work(hand):
            hand.put("a", 5)

        def mend(hand):
            if hand.look("a") in (5, 6):
                hand.put("a", hand.look("a") + 1)

        self.assertEqual(not_settled(Plan(work, mend, pages={"a": 0})), [(1, (ONE,))])

    def test_behind_several_falls(self):
        # Only where 1 is put, and kept by a fall within the mend, the next mends go on from 3 to 4.
        def mend(hand):
            steps = {0: [1, 2], 1: [3], 3: [4]}
            for value in steps.get(hand.look("a"), ()):
                hand.put("a", value)

        plan = Plan(lambda hand: None, mend, pages={"a": 0})
        self.assertEqual(not_settled(plan), [(0, (NONE,)), (2, (ONE,))])

    def test_equal_and_not_the_same(self):
        def mend(hand):
            hand.put("a", True if hand.look("a") is not True else 1)

        plan = Plan(lambda hand: None, mend, pages={"a": 1})
        self.assertEqual(not_settled(plan), [(0, (NONE,))])

    def test_ends_and_what_is_said_do_not_count(self):
        def mend(hand):
            hand.say(hand.look("a"))
            seen = hand.look("a")
            hand.put("a", 1)
            if seen == 0:
                hand.fail(0)
            return seen

        self.assertIsNone(not_settled(Plan(lambda hand: None, mend, pages={"a": 0})))


if __name__ == "__main__":
    unittest.main()
