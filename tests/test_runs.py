"""Tests of runs: promises [3], [4], [10] to [15], [19] and [20]."""

import unittest

from fallways.errors import BadValue, Beyond, Held, NoMoment, NoPage
from fallways.plans import Plan
from fallways.repairs import flushed, spared
from fallways.runs import Run
from checks import Checks
from samples import NO_VALUES, VALUES

NO_MOMENTS = [
    True, False, None, -1, -7, 1.0, 0.0, "0", "", (), (0,), [], [0], {}, b"", 10 ** 30, -10 ** 30,
    10 ** 5000, float("nan"), object(), int,
]


def long_work(hand):
    hand.say("begin")
    hand.put("a", 1)
    hand.say("one")
    hand.put("b", (1, 2))
    hand.barrier()
    hand.put("a", True)
    hand.look("b")
    hand.flush()
    hand.put("c", "x")
    hand.say("two")
    hand.say("two")
    return (1, True)


def long_plan():
    return Plan(long_work, pages={"c": None, "a": 0, "b": (0, 0)})


def run_of(work, **pages):
    return Run.of(Plan(work, pages=pages or {"a": 0, "b": 0}))


def epochs_of(work):
    run = run_of(work)
    return [run.epochs_at(moment) for moment in range(len(run.steps()) + 1)]


class Telling(Checks):
    def test_steps(self):
        self.like(Run.of(long_plan()).steps(), [
            (("put", "a", 1), None),
            (("put", "b", (1, 2)), None),
            (("barrier",), None),
            (("put", "a", True), None),
            (("look", "b"), (1, 2)),
            (("flush",), None),
            (("put", "c", "x"), None),
        ])

    def test_end_and_what_was_said(self):
        run = Run.of(long_plan())
        self.like(run.end(), ("told", (1, True)))
        self.like(run.said(), ("begin", "one", "two", "two"))

    def test_pages_at(self):
        run = Run.of(long_plan())
        first = (("a", 0), ("b", (0, 0)), ("c", None))
        self.like([run.pages_at(moment) for moment in range(8)], [
            first,
            (("a", 1), *first[1:]),
            (("a", 1), ("b", (1, 2)), ("c", None)),
            (("a", 1), ("b", (1, 2)), ("c", None)),
            (("a", True), ("b", (1, 2)), ("c", None)),
            (("a", True), ("b", (1, 2)), ("c", None)),
            (("a", True), ("b", (1, 2)), ("c", None)),
            (("a", True), ("b", (1, 2)), ("c", "x")),
        ])

    def test_flushed_at(self):
        run = Run.of(long_plan())
        first = (("a", 0), ("b", (0, 0)), ("c", None))
        later = (("a", True), ("b", (1, 2)), ("c", None))
        self.like([run.flushed_at(moment) for moment in range(8)], [first] * 6 + [later] * 2)

    def test_said_by(self):
        run = Run.of(long_plan())
        one = ("begin", "one")
        self.like(
            [run.said_by(moment) for moment in range(8)],
            [("begin",), one, one, one, one, one, one, ("begin", "one", "two", "two")],
        )

    def test_epochs_at(self):
        run = Run.of(long_plan())
        self.like([run.epochs_at(moment) for moment in range(8)], [
            [[]],
            [[("a", 1)]],
            [[("a", 1), ("b", (1, 2))]],
            [[("a", 1), ("b", (1, 2))], []],
            [[("a", 1), ("b", (1, 2))], [("a", True)]],
            [[("a", 1), ("b", (1, 2))], [("a", True)]],
            [[]],
            [[("c", "x")]],
        ])

    def test_a_run_of_nothing(self):
        run = run_of(lambda hand: None)
        self.assertEqual((run.steps(), run.end(), run.said()), ([], ("told", None), ()))
        self.assertEqual(run.pages_at(0), (("a", 0), ("b", 0)))
        self.assertEqual(run.flushed_at(0), (("a", 0), ("b", 0)))
        self.assertEqual((run.said_by(0), run.epochs_at(0)), ((), [[]]))

    def test_kinds(self):
        run = Run.of(long_plan())
        self.assertIs(type(run), Run)
        for told, kind in (
            (run.steps(), list), (run.steps()[0], tuple), (run.steps()[0][0], tuple),
            (run.end(), tuple), (run.said(), tuple), (run.said_by(0), tuple),
            (run.pages_at(1), tuple), (run.pages_at(1)[0], tuple), (run.flushed_at(7), tuple),
            (run.flushed_at(7)[0], tuple), (run.epochs_at(1), list), (run.epochs_at(1)[0], list),
            (run.epochs_at(1)[0][0], tuple),
        ):
            self.assertIs(type(told), kind)

    def test_all_values(self):
        def work(hand):
            for value in VALUES:
                hand.put("a", value)
                hand.say(value)

        run = run_of(work)
        self.like(run.said(), tuple(VALUES))
        self.like(run.epochs_at(len(VALUES)), [[("a", value) for value in VALUES]])
        self.like([wish[2] for wish, _ in run.steps()], VALUES)
        for value in VALUES:
            self.like(run_of(lambda hand: value).end(), ("told", value))
            self.like(run_of(lambda hand: hand.fail(value)).end(), ("failed", value))
            self.like(run_of(lambda hand: None, page=value).pages_at(0), (("page", value),))

    def test_lists_are_new_each_time(self):
        run = Run.of(long_plan())
        for told in (run.steps, lambda: run.epochs_at(4), lambda: run.kept_at(4), run.lefts):
            wanted = repr(told())
            self.assertIsNot(told(), told())
            told().clear()
            told().append("z")
            told().reverse()
            self.assertEqual(repr(told()), wanted)
        run.epochs_at(4)[0].clear()
        run.epochs_at(4)[1].append("z")
        self.like(run.epochs_at(4), [[("a", 1), ("b", (1, 2))], [("a", True)]])


class Mending(Checks):
    def test_from_any_disk(self):
        def mend(hand):
            hand.say(hand.look("a"))
            hand.put("b", hand.look("a"))
            hand.barrier()
            hand.fail(hand.look("b"))

        plan = Plan(long_work, mend, pages={"b": 0, "a": 1})
        for value in VALUES:
            disk = (("a", value), ("b", "old"))
            run = Run.mending(plan, disk)
            self.like(run.steps(), [
                (("look", "a"), value), (("look", "a"), value), (("put", "b", value), None),
                (("barrier",), None), (("look", "b"), value),
            ])
            self.like((run.end(), run.said()), (("failed", value), (value,)))
            self.like((run.said_by(0), run.said_by(1)), ((), (value,)))
            self.like(run.flushed_at(5), disk)
            self.like(run.pages_at(5), (("a", value), ("b", value)))
            self.like(run.epochs_at(5), [[("b", value)], []])

    def test_a_mend_of_none_does_nothing(self):
        disk = (("a", 5), ("b", (1,)))
        run = Run.mending(Plan(long_work, pages={"a": 0, "b": 0}), disk)
        self.assertEqual((run.steps(), run.end(), run.said()), ([], ("told", None), ()))
        self.assertEqual((run.pages_at(0), run.flushed_at(0)), (disk, disk))
        self.assertEqual(run.lefts(), [(disk, (0, ((0, 0), (0, 0))))])

    def test_work_and_mend_may_be_one_function(self):
        def both(hand):
            hand.put("a", hand.look("a") + 1)

        plan = Plan(both, both, pages={"a": 3})
        self.assertEqual(Run.of(plan).pages_at(2), (("a", 4),))
        self.assertEqual(Run.mending(plan, (("a", 8),)).pages_at(2), (("a", 9),))

    def test_functions_of_any_kind(self):
        class Caller:
            def __call__(self, hand):
                return hand.look("a")

            def method(self, hand):
                return hand.look("a")

        for work in (Caller(), Caller().method, lambda hand: hand.look("a"), lambda hand, by=1: hand.look("a")):
            plan = Plan(work, work, pages={"a": 3})
            self.assertEqual(Run.of(plan).end(), ("told", 3))
            self.assertEqual(Run.mending(plan, (("a", 4),)).end(), ("told", 4))


class Epochs(Checks):
    def test_guards_first_last_and_twice(self):
        def work(hand):
            hand.barrier()
            hand.put("a", 1)
            hand.barrier()
            hand.barrier()
            hand.put("b", 2)
            hand.barrier()

        self.like(epochs_of(work), [
            [[]],
            [[], []],
            [[], [("a", 1)]],
            [[], [("a", 1)], []],
            [[], [("a", 1)], [], []],
            [[], [("a", 1)], [], [("b", 2)]],
            [[], [("a", 1)], [], [("b", 2)], []],
        ])

    def test_flushes_first_last_and_twice(self):
        def work(hand):
            hand.flush()
            hand.put("a", 1)
            hand.flush()
            hand.flush()
            hand.barrier()
            hand.put("b", 2)
            hand.flush()

        self.like(epochs_of(work), [
            [[]], [[]], [[("a", 1)]], [[]], [[]], [[], []], [[], [("b", 2)]], [[]],
        ])
        run = run_of(work)
        self.like([run.flushed_at(moment) for moment in range(8)], [
            *[(("a", 0), ("b", 0))] * 3, *[(("a", 1), ("b", 0))] * 4, (("a", 1), ("b", 2)),
        ])

    def test_pages_and_values_of_like_words_are_no_guards(self):
        def work(hand):
            hand.put("put", "flush")
            hand.look("flush")
            hand.look("barrier")
            hand.put("put", "barrier")
            hand.look("put")

        run = run_of(work, put=0, flush=1, barrier=2)
        self.like(run.epochs_at(5), [[("put", "flush"), ("put", "barrier")]])
        self.like(run.flushed_at(5), (("barrier", 2), ("flush", 1), ("put", 0)))

    def test_puts_of_the_value_that_was_there(self):
        def work(hand):
            hand.put("a", 0)
            hand.put("a", 0)

        self.like(epochs_of(work)[2], [[("a", 0), ("a", 0)]])

    def test_spared_guards_and_flushes_put_in(self):
        def work(hand):
            hand.put("a", 1)
            hand.barrier()
            hand.put("a", 2)
            hand.flush()
            hand.put("b", 3)

        plan = spared(Plan(work, pages={"a": 0, "b": 0}), [1, 3])
        run = Run.of(plan)
        self.like(run.epochs_at(5), [[("a", 1), ("a", 2), ("b", 3)]])
        self.like(run.flushed_at(5), (("a", 0), ("b", 0)))
        run = Run.of(flushed(plan, [2]))
        self.like(run.epochs_at(2), [[("a", 1)]])
        self.like(run.epochs_at(3), [[]])
        self.like(run.epochs_at(5), [[("b", 3)]])
        self.like(run.flushed_at(3), (("a", 2), ("b", 0)))


class Moments(Checks):
    def test_from_none_to_all_steps(self):
        run = Run.of(long_plan())
        for call in (run.pages_at, run.flushed_at, run.said_by, run.epochs_at, run.kept_at):
            for moment in range(8):
                call(moment)
                call(moment=moment)

    def test_others(self):
        run = Run.of(long_plan())
        for call in (run.pages_at, run.flushed_at, run.said_by, run.epochs_at, run.kept_at):
            for moment in [*NO_MOMENTS, 8, 9, 40, -8]:
                self.refused(NoMoment, "moment", moment, call, moment)
                self.refused(NoMoment, "moment", moment, call, moment=moment)

    def test_of_a_run_without_a_step(self):
        run = run_of(lambda hand: None)
        for call in (run.pages_at, run.flushed_at, run.said_by, run.epochs_at, run.kept_at):
            call(0)
            for moment in [*NO_MOMENTS, 1]:
                self.refused(NoMoment, "moment", moment, call, moment)

    def test_a_call_that_raises_changes_nothing(self):
        run = Run.of(long_plan())
        wanted = repr((run.steps(), run.said(), run.lefts()))
        self.assertRaises(NoMoment, run.epochs_at, 8)
        self.assertEqual(repr((run.steps(), run.said(), run.lefts())), wanted)


class HeldAndBeyond(Checks):
    def test_behind_fail(self):
        def work(hand):
            hand.put("a", 1)
            hand.say("said")
            try:
                hand.fail("no")
            except Held:
                for call in (
                    lambda: hand.put("a", 2), lambda: hand.look("b"), hand.barrier, hand.flush,
                    lambda: hand.say("more"), lambda: hand.fail("again"), lambda: hand.look("zz"),
                    lambda: hand.put("a", [1]), lambda: hand.say([1]),
                ):
                    self.assertRaises(Held, call)
            return "told"

        run = run_of(work)
        self.assertEqual(run.steps(), [(("put", "a", 1), None)])
        self.assertEqual((run.end(), run.said()), (("failed", "no"), ("said",)))
        self.assertEqual(run.pages_at(1), (("a", 1), ("b", 0)))

    def test_as_long_as_may_be_and_one_more(self):
        def walk(steps):
            def work(hand):
                try:
                    for _ in range(steps):
                        hand.look("a")
                except Held:
                    self.assertRaises(Held, hand.say, 1)
                    return [1]
            return work

        for longest in (1, 7, 60):
            plan = Plan(walk(longest), walk(longest), pages={"a": 0}, longest=longest)
            self.assertEqual(len(Run.of(plan).steps()), longest)
            self.assertEqual(len(Run.mending(plan, plan.start()).steps()), longest)
            plan = Plan(walk(longest + 1), walk(longest + 1), pages={"a": 0}, longest=longest)
            self.assertRaises(Beyond, Run.of, plan)
            self.assertRaises(Beyond, Run.mending, plan, plan.start())

    def test_runs_know_nothing_of_histories(self):
        def endless(hand):
            while True:
                hand.look("a")

        plan = Plan(long_work, endless, pages={"a": 0, "b": 0, "c": 0}, most=1)
        self.assertEqual(len(Run.of(plan).steps()), 7)
        self.assertRaises(Beyond, Run.mending, plan, plan.start())

    def test_what_is_no_value_goes_out(self):
        for thing in NO_VALUES:
            plan = Plan(lambda hand: thing, lambda hand: thing, pages={"a": 0})
            self.refused(BadValue, "value", thing, Run.of, plan)
            self.refused(BadValue, "value", thing, Run.mending, plan, plan.start())

    def test_errors_that_a_function_takes(self):
        def work(hand):
            for call, kind in (
                (lambda: hand.look("zz"), NoPage), (lambda: hand.put("zz", 1), NoPage),
                (lambda: hand.put("a", 1.5), BadValue), (lambda: hand.say([]), BadValue),
                (lambda: hand.fail({}), BadValue),
            ):
                self.assertRaises(kind, call)
            hand.put("a", 1)

        run = run_of(work)
        self.assertEqual((run.steps(), run.end()), ([(("put", "a", 1), None)], ("told", None)))


if __name__ == "__main__":
    unittest.main()
