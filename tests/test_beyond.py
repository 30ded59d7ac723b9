"""Tests of what goes out of the calls that ask about all histories: promises [4], [12], [14], [25], [33] and [35]."""

import unittest

from fallways.asks import every, first, not_settled, not_whole, some
from fallways.errors import BadGuard, BadPlace, BadValue, Beyond, Held, NoPage, NotTruth
from fallways.histories import disks, is_closed, left, outcome, outcomes
from fallways.plans import Plan
from fallways.repairs import flushed, guards, least_flushes, least_guards, spared
from fallways.runs import Run
from checks import Checks
from samples import NO_VALUES
from works import NONE, ONE, count_mend, count_plan, count_work, endless, page, say_work


def good(told):
    return False


class Called(Exception):
    """A test was called that was not to be."""


def never(told):
    raise Called()


# Every function that asks about all histories, with what it may be asked besides the plan.
ASKS = [
    outcomes,
    disks,
    lambda plan: every(plan, never),
    lambda plan: some(plan, never),
    lambda plan: first(plan, never),
    not_whole,
    not_settled,
    lambda plan: is_closed(plan, []),
    lambda plan: is_closed(plan, None),
    lambda plan: is_closed(plan, [None]),
    lambda plan: is_closed(plan, [page(0)]),
    lambda plan: least_guards(plan, never),
    lambda plan: least_flushes(plan, [], never),
    lambda plan: least_flushes(plan, [0], never),
    lambda plan: least_flushes(plan, [None], never),
    lambda plan: least_flushes(plan, [99, 0], never),
]

# The same without what would be refused or not be called if the plan kept its limits.
ANSWERS = [
    outcomes,
    disks,
    lambda plan: every(plan, good),
    lambda plan: some(plan, good),
    lambda plan: first(plan, good),
    not_whole,
    not_settled,
    lambda plan: is_closed(plan, []),
    lambda plan: least_guards(plan, good),
    lambda plan: least_flushes(plan, [], good),
    lambda plan: least_flushes(plan, [0], good),
]


class TooLong(Checks):
    def test_a_work_just_met_and_just_passed(self):
        def walk(hand):
            for _ in range(7):
                hand.put("a", 0)

        for call in ANSWERS:
            call(Plan(walk, pages={"a": 0}, longest=7))
        for call in [*ASKS, guards, lambda plan: spared(plan, [0]), lambda plan: flushed(plan, [0])]:
            self.assertRaises(Beyond, call, Plan(walk, pages={"a": 0}, longest=6))
        for call in (
            lambda plan: spared(plan, [None]), lambda plan: flushed(plan, [None]), Run.of,
            lambda plan: outcome(plan, []), lambda plan: left(plan, [(0, (NONE,))]), lambda plan: left(plan, [None]),
        ):
            self.assertRaises(Beyond, call, Plan(walk, pages={"a": 0}, longest=6))

    def test_a_mend_just_met_and_just_passed(self):
        def walk(hand):
            for _ in range(5):
                hand.look("a")

        for call in ANSWERS:
            call(Plan(count_work, walk, pages={"a": 0}, longest=5))
        for call in ASKS:
            self.assertRaises(Beyond, call, Plan(count_work, walk, pages={"a": 0}, longest=4))

    def test_mends_without_end_on_some_disks_alone(self):
        def mend(hand):
            if hand.look("a") == 3:
                endless(hand)
            count_mend(hand)

        plan = Plan(count_work, mend, pages={"a": 0})
        for call in ASKS:
            self.assertRaises(Beyond, call, plan)

    def test_on_disks_that_no_history_leaves_they_count_for_nothing(self):
        def mend(hand):
            if hand.look("a") > 3:
                endless(hand)
            count_mend(hand)

        plan = Plan(count_work, mend, pages={"a": 0})
        for call in ANSWERS:
            call(plan)
        self.assertIs(is_closed(plan, [page(value) for value in range(4)]), True)
        self.assertRaises(Beyond, is_closed, plan, [page(value) for value in range(5)])

    def test_held_is_taken(self):
        def mend(hand):
            try:
                endless(hand)
            except Held:
                return [1]

        for call in ASKS:
            self.assertRaises(Beyond, call, Plan(count_work, mend, pages={"a": 0}))
            self.assertRaises(Beyond, call, Plan(mend, pages={"a": 0}))

    def test_calls_that_do_not_ask_about_all(self):
        def mend(hand):
            if hand.look("a") == 2:
                endless(hand)
            count_mend(hand)

        def work(hand):
            hand.put("a", 1)
            hand.barrier()

        plan = Plan(work, mend, pages={"a": 0})
        self.assertEqual(guards(plan), [1])
        self.assertEqual(guards(spared(plan, [1])), [])
        self.assertEqual(guards(flushed(plan, [0])), [1])
        self.assertEqual(outcome(plan, []), ((), ("told", None), page(1)))
        self.assertEqual(left(plan, [(1, (ONE,))]), page(1))
        self.assertEqual(outcome(plan, [(1, (ONE,))]), ((), ("told", None), page(2)))
        # The mend looks twice before it puts.
        behind = [(1, (ONE,)), (3, (ONE,))]
        self.assertRaises(Beyond, outcome, plan, behind)
        self.assertRaises(Beyond, left, plan, [*behind, (0, (NONE,))])
        self.assertRaises(Beyond, left, plan, [*behind, None])
        self.assertRaises(Beyond, Run.mending, plan, page(2))
        self.assertEqual(Run.mending(plan, page(3)).end(), ("told", None))


class TooMany(Checks):
    def test_disks_just_met_and_just_passed(self):
        for call in ANSWERS:
            call(count_plan(most=4))
        for most in (1, 2, 3):
            for call in ASKS:
                self.assertRaises(Beyond, call, count_plan(most=most))

    def test_counted_apart_where_something_else_was_said(self):
        for call in ANSWERS:
            call(Plan(say_work, pages={"a": 0}, most=3))
        for most in (1, 2):
            for call in ASKS:
                self.assertRaises(Beyond, call, Plan(say_work, pages={"a": 0}, most=most))

    def test_counted_apart_behind_mends_too(self):
        def work(hand):
            hand.look("a")
            hand.say(1)

        for call in ANSWERS:
            call(Plan(work, count_mend, pages={"a": 0}, most=8))
        for call in ASKS:
            self.assertRaises(Beyond, call, Plan(work, count_mend, pages={"a": 0}, most=7))

    def test_what_mends_say_does_not_count(self):
        def mend(hand):
            hand.say(hand.look("a"))
            hand.say(1)

        for call in ANSWERS:
            call(Plan(count_work, mend, pages={"a": 0}, most=2))

    def test_equal_and_not_the_same(self):
        def work(hand):
            hand.put("a", 1)
            hand.put("a", True)

        for call in ANSWERS:
            call(Plan(work, pages={"a": 0}, most=3))
        for call in ASKS:
            self.assertRaises(Beyond, call, Plan(work, pages={"a": 0}, most=2))

    def test_the_first_disk_counts_as_any_that_a_fall_leaves(self):
        for call in ANSWERS:
            call(Plan(lambda hand: hand.look("a"), pages={"a": 0}, most=1))
            call(Plan(count_work, pages={"a": 0}, most=2))
        for call in ASKS:
            self.assertRaises(Beyond, call, Plan(count_work, pages={"a": 0}, most=1))

    def test_disks_that_no_fall_leaves_do_not_count(self):
        def mend(hand):
            # What is put is flushed only at the end: no disk of a fall has 5.
            hand.put("b", 5)
            hand.put("b", 0)

        def work(hand):
            hand.look("a")

        plan = Plan(work, mend, pages={"a": 0, "b": 0}, most=2)
        self.assertEqual(len(disks(plan)), 2)
        rows = [disk for disk, _ in disks(plan)]
        self.assertIs(is_closed(plan, [*rows, (("a", 7), ("b", 0)), (("a", 7), ("b", 5))]), True)

    def test_mends_that_count_without_end(self):
        def mend(hand):
            hand.put("a", hand.look("a") + 1)

        for call in ASKS:
            self.assertRaises(Beyond, call, Plan(count_work, mend, pages={"a": 0}, most=2000))

    def test_calls_that_do_not_ask_about_all(self):
        plan = count_plan(most=1)
        self.assertEqual(guards(plan), [])
        self.assertEqual(spared(plan, []).most, 1)
        self.assertEqual(flushed(plan, [0]).most, 1)
        self.assertEqual(left(plan, [(1, (ONE,)), (2, (ONE,))]), page(2))
        self.assertEqual(outcome(plan, [(1, (ONE,))]), ((), ("told", 1), page(2)))
        self.assertEqual(len(Run.of(plan).lefts()), 2)

    def test_where_all_guards_are_spared(self):
        def work(hand):
            hand.put("a", 1)
            hand.flush()
            hand.put("b", 1)

        def plan(most):
            return Plan(work, pages={"a": 0, "b": 0}, most=most)

        self.assertEqual(len(disks(plan(3))), 3)
        self.assertRaises(Beyond, disks, plan(2))
        self.assertEqual(len(disks(spared(plan(4), [1]))), 4)
        self.assertRaises(Beyond, disks, spared(plan(3), [1]))
        self.assertEqual(least_guards(plan(4), good), [[]])
        self.assertRaises(Beyond, least_guards, plan(3), good)
        self.assertRaises(Beyond, least_guards, plan(3), never)
        self.assertRaises(Beyond, least_guards, plan(3), lambda told: None)

    def test_mends_too_long_where_all_guards_are_spared(self):
        def work(hand):
            hand.put("a", 1)
            hand.barrier()
            hand.put("b", 1)

        def mend(hand):
            if hand.look("b") and not hand.look("a"):
                endless(hand)

        plan = Plan(work, mend, pages={"a": 0, "b": 0})
        self.assertEqual(len(outcomes(plan)), 3)
        self.assertRaises(Beyond, least_guards, plan, good)
        self.assertRaises(Beyond, least_guards, plan, never)
        self.assertEqual(least_flushes(plan, [0], good), [[]])

    def test_ahead_of_places_and_these_ahead_of_tests(self):
        for places in ([None], [9], [True], [0, -1]):
            self.assertRaises(Beyond, least_flushes, count_plan(most=3), places, never)
            self.assertRaises(BadPlace, least_flushes, count_plan(), places, never)
            self.assertRaises(BadPlace, least_flushes, count_plan(), places, lambda told: None)
        self.assertRaises(Called, least_flushes, count_plan(), [0], never)
        self.assertRaises(NotTruth, least_flushes, count_plan(), [0], lambda told: None)


class GoingOn(Checks):
    """Errors that leave works, mends and tests."""

    def errors(self):
        return [
            KeyError("a"), ZeroDivisionError(), IndexError(1), ValueError("x"), TypeError(), StopIteration(3),
            GeneratorExit(), RuntimeError(), NoPage("mine"), BadValue(1), BadGuard(2), NotTruth(0),
            Called(), KeyboardInterrupt(), AttributeError("b"), RecursionError(), AssertionError(),
        ]

    def goes_on(self, error, call, *told):
        with self.assertRaises(type(error)) as caught:
            call(*told)
        self.assertIs(caught.exception, error)
        self.assertIsNone(error.__cause__)
        self.assertIsNone(error.__context__)

    def raising(self, error, when=None):
        def function(hand):
            seen = hand.look("a")
            hand.put("a", 1)
            if when is None or seen == when:
                raise error

        return function

    def test_of_works(self):
        for error in self.errors():
            plan = Plan(self.raising(error), pages={"a": 0})
            for call in [
                *ASKS, Run.of, guards, lambda plan: spared(plan, [0]), lambda plan: flushed(plan, [0]),
                lambda plan: outcome(plan, []), lambda plan: left(plan, [(0, (NONE,))]),
            ]:
                self.goes_on(error, call, plan)

    def test_of_mends(self):
        for error in self.errors():
            plan = Plan(count_work, self.raising(error), pages={"a": 0})
            for call in [*ASKS, lambda plan: outcome(plan, [(0, (NONE,))])]:
                self.goes_on(error, call, plan)
            self.goes_on(error, Run.mending, plan, page(5))
            self.assertEqual(outcome(plan, []), ((), ("told", None), page(1)))
            self.assertEqual(guards(plan), [])

    def test_of_mends_on_some_disks_alone(self):
        for error in self.errors():
            plan = Plan(count_work, self.raising(error, 1), pages={"a": 0})
            for call in ASKS:
                self.goes_on(error, call, plan)
            self.assertEqual(outcome(plan, [(0, (NONE,))]), ((), ("told", None), page(1)))
            self.goes_on(error, outcome, plan, [(1, (ONE,))])
            plan = Plan(count_work, self.raising(error, 7), pages={"a": 0})
            for call in ANSWERS:
                call(plan)
            self.goes_on(error, is_closed, plan, [page(0), page(1), page(7)])

    def test_of_tests(self):
        for error in self.errors():
            def test(told):
                raise error

            for call in (every, some, first, least_guards, lambda plan, test: least_flushes(plan, [0], test)):
                self.goes_on(error, call, count_plan(), test)

    def test_what_is_no_value_goes_out(self):
        for thing in NO_VALUES:
            def function(hand):
                return thing

            for call in ASKS:
                self.refused(BadValue, "value", thing, call, Plan(function, pages={"a": 0}))
                self.refused(BadValue, "value", thing, call, Plan(count_work, function, pages={"a": 0}))

    def test_all_is_as_before_behind_them(self):
        error = KeyError("mend")
        plan = Plan(count_work, self.raising(error, 1), pages={"a": 0})
        for call in ASKS + ASKS:
            self.goes_on(error, call, plan)
            self.assertEqual(left(plan, [(1, (ONE,))]), page(1))
            self.assertEqual((plan.names(), plan.start()), (["a"], page(0)))
            self.assertEqual(Run.mending(plan, page(0)).pages_at(2), page(1))


if __name__ == "__main__":
    unittest.main()
