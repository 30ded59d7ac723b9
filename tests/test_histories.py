"""Tests of histories: promises [2], [3], [6], [22] to [24], [26] and [30]."""

import unittest

from fallways.asks import every, not_settled, not_whole
from fallways.errors import BadFall
from fallways.histories import disks, is_closed, left, outcome, outcomes
from fallways.plans import Plan
from fallways.repairs import least_flushes
from checks import Checks
from works import NONE, ONE, count_mend, count_plan, page, row_plan, say_work

# Falls of the plan that counts.
EARLY = (0, (NONE,))
LATE = (1, (ONE,))
LATER = (2, (ONE,))

NO_FALLS = [
    None, 0, True, "fall", (), [], {}, 1.5, object(), (1,), (1, None), [1, (ONE,)], (1, [ONE]), (1, ([1, 0],)),
    (True, (ONE,)), (1, ((True, 0),)), (1, ((1, False),)), (2, (ONE,)), (-1, (NONE,)), (0, (ONE,)),
    (1, (ONE, NONE)), (1, ()), (1, ((2, 0),)), (1, ((0, 1),)),
]


class Left(Checks):
    def test_of_none_the_first_disk(self):
        self.like(left(count_plan(), []), page(0))
        self.like(left(count_plan(), ()), page(0))
        self.like(left(row_plan(), []), (("a", 0), ("b", 0), ("done", False)))

    def test_one_fall(self):
        self.like(left(count_plan(), [EARLY]), page(0))
        self.like(left(count_plan(), [(1, (NONE,))]), page(0))
        self.like(left(count_plan(), [LATE]), page(1))
        self.like(left(row_plan(), [(4, (NONE, ONE, NONE))]), (("a", 0), ("b", 1), ("done", False)))

    def test_one_behind_another(self):
        self.like(left(count_plan(), [LATE, EARLY]), page(1))
        self.like(left(count_plan(), [LATE, LATER]), page(2))
        self.like(left(count_plan(), [EARLY, LATER, LATER, LATER]), page(3))
        self.like(left(count_plan(), [LATE, (2, (NONE,)), LATER]), page(2))
        mended = [(4, (ONE, ONE, NONE)), (3, (NONE, ONE, NONE)), (4, (NONE, NONE, NONE))]
        self.like(left(row_plan(), mended[:2]), (("a", 1), ("b", 0), ("done", False)))
        self.like(left(row_plan(), mended), (("a", 0), ("b", 0), ("done", False)))

    def test_lists_tuples_and_names(self):
        for history in ([LATE, LATER], (LATE, LATER)):
            self.like(left(count_plan(), history), page(2))
            self.like(left(history=history, plan=count_plan()), page(2))
            self.like(outcome(count_plan(), history), ((), ("told", 2), page(3)))
            self.like(outcome(history=history, plan=count_plan()), ((), ("told", 2), page(3)))

    def test_what_is_passed_is_not_changed(self):
        history = [LATE, LATER]
        left(count_plan(), history)
        outcome(count_plan(), history)
        self.assertEqual(history, [LATE, LATER])

    def test_falls_of_the_work_are_no_falls_of_the_mend(self):
        self.like(left(count_plan(), [LATE]), page(1))
        self.refused(BadFall, "fall", LATE, left, count_plan(), [LATE, LATE])
        self.refused(BadFall, "fall", LATER, left, count_plan(), [LATER])
        # Where three is on the disk the mend puts nothing.
        self.refused(BadFall, "fall", LATER, left, count_plan(), [LATE, LATER, LATER, LATER])

    def test_first_one_that_is_none(self):
        for call in (left, outcome):
            for fall in NO_FALLS:
                for history in ([fall], (fall,), [fall, LATER], [fall, fall], [fall, None]):
                    self.refused(BadFall, "fall", fall, call, count_plan(), history)
            for fall in [*NO_FALLS, LATE]:
                if fall == LATER and type(fall) is tuple:
                    continue
                for history in ([LATE, fall], (LATE, LATER, fall), [EARLY, fall, None]):
                    self.refused(BadFall, "fall", fall, call, count_plan(), history)
        other = [1, 2]
        self.refused(BadFall, "fall", other, left, count_plan(), [LATE, other, [1, 2]])


class Outcome(Checks):
    def test_of_no_fall(self):
        self.like(outcome(count_plan(), []), ((), ("told", None), page(1)))
        self.like(outcome(count_plan(), ()), ((), ("told", None), page(1)))
        plan = Plan(say_work, pages={"a": 0})
        self.like(outcome(plan, []), (("one", True, 1), ("told", "told"), page(0)))

    def test_what_the_work_has_said_by_its_fall(self):
        plan = Plan(say_work, pages={"a": 0})
        for moment, said in ((0, ("one",)), (1, ("one", True)), (2, ("one", True, 1))):
            self.like(outcome(plan, [(moment, (NONE,))]), (said, ("told", None), page(0)))

    def test_nothing_that_mends_say(self):
        def mend(hand):
            hand.say("mend")
            hand.put("a", 2)
            hand.fail(hand.look("a"))

        plan = Plan(say_work, mend, pages={"a": 0})
        self.like(outcome(plan, [(0, (NONE,))]), (("one",), ("failed", 2), page(2)))
        self.like(outcome(plan, [(1, (NONE,)), (1, (ONE,))]), (("one", True), ("failed", 2), page(2)))

    def test_pages_as_a_look_finds_them(self):
        def work(hand):
            hand.put("a", 1)
            hand.fail("no")

        plan = Plan(work, work, pages={"a": 0})
        self.like(outcome(plan, []), ((), ("failed", "no"), page(1)))
        self.like(outcome(plan, [EARLY]), ((), ("failed", "no"), page(1)))

    def test_histories_that_leave_the_same_go_on_alike(self):
        plan = count_plan()
        for one, other in (
            ([EARLY], [(1, (NONE,))]), ([EARLY, LATER], [LATE]), ([LATE], [EARLY, EARLY, (1, (NONE,)), LATER]),
        ):
            for more in ([], [EARLY], [LATER], [(2, (NONE,)), LATER]):
                self.assertEqual(left(plan, one + more), left(plan, other + more))
                self.assertEqual(outcome(plan, one + more), outcome(plan, other + more))


class Outcomes(Checks):
    def test_least_history_of_each(self):
        self.like(outcomes(count_plan()), [
            (((), ("told", None), page(1)), []),
            (((), ("told", 0), page(1)), [EARLY]),
            (((), ("told", 1), page(2)), [LATE]),
            (((), ("told", 2), page(3)), [LATE, LATER]),
            (((), ("told", 3), page(3)), [LATE, LATER, LATER]),
        ])
        self.like(outcomes(plan=row_plan()), [
            (((), ("told", None), (("a", 1), ("b", 1), ("done", True))), []),
            (((), ("told", None), (("a", 0), ("b", 0), ("done", False))), [(0, (NONE, NONE, NONE))]),
        ])

    def test_one_disk_and_unlike_things_said(self):
        plan = Plan(say_work, pages={"a": 0})
        self.like(outcomes(plan), [
            ((("one", True, 1), ("told", "told"), page(0)), []),
            ((("one",), ("told", None), page(0)), [(0, (NONE,))]),
            ((("one", True), ("told", None), page(0)), [(1, (NONE,))]),
            ((("one", True, 1), ("told", None), page(0)), [(2, (NONE,))]),
        ])

    def test_unlike_things_said_go_on_apart(self):
        def work(hand):
            hand.put("a", 1)
            hand.say("one")

        def mend(hand):
            if hand.look("a") == 1:
                hand.put("a", 2)
                hand.flush()
                hand.put("a", 3)

        plan = Plan(work, mend, pages={"a": 0})
        self.like(outcomes(plan), [
            ((("one",), ("told", None), page(1)), []),
            (((), ("told", None), page(0)), [(0, (NONE,))]),
            ((("one",), ("told", None), page(0)), [(1, (NONE,))]),
            ((("one",), ("told", None), page(3)), [(1, (ONE,))]),
            ((("one",), ("told", None), page(2)), [(1, (ONE,)), (2, (ONE,))]),
        ])
        self.like(disks(plan), [
            (page(0), []), (page(1), [(1, (ONE,))]), (page(2), [(1, (ONE,)), (2, (ONE,))]),
            (page(3), [(1, (ONE,)), (4, (ONE,))]),
        ])

    def test_equal_and_not_the_same(self):
        def work(hand):
            hand.say(hand.look("a"))
            for value in (1, True, (1,), (True,)):
                hand.put("a", value)

        def mend(hand):
            return hand.look("a") == 1

        plan = Plan(work, mend, pages={"a": 0})
        self.like(outcomes(plan), [
            (((0,), ("told", None), page((True,))), []),
            (((), ("told", False), page(0)), [(0, (NONE,))]),
            (((0,), ("told", False), page(0)), [(1, (NONE,))]),
            (((0,), ("told", True), page(1)), [(2, (ONE,))]),
            (((0,), ("told", True), page(True)), [(3, ((2, 0),))]),
            (((0,), ("told", False), page((1,))), [(4, ((3, 0),))]),
            (((0,), ("told", False), page((True,))), [(5, ((4, 0),))]),
        ])
        self.like(disks(plan), [
            (page(0), []), (page(1), [(2, (ONE,))]), (page(True), [(3, ((2, 0),))]),
            (page((1,)), [(4, ((3, 0),))]), (page((True,)), [(5, ((4, 0),))]),
        ])

    def test_ends_that_are_equal_and_not_the_same(self):
        def mend(hand):
            return (1, True)[hand.look("a")]

        plan = Plan(lambda hand: hand.put("a", 1), mend, pages={"a": 0})
        self.like([told[1] for told, _ in outcomes(plan)], [("told", None), ("told", 1), ("told", True)])
        plan = Plan(lambda hand: hand.put("a", 1), lambda hand: hand.fail(0) if hand.look("a") else 0, pages={"a": 0})
        self.like([told[1] for told, _ in outcomes(plan)], [("told", None), ("told", 0), ("failed", 0)])

    def test_a_work_of_nothing(self):
        plan = Plan(lambda hand: None, pages={"a": 0})
        self.like(outcomes(plan), [(((), ("told", None), page(0)), [])])
        self.like(disks(plan), [(page(0), [])])

    def test_lists_are_new_each_time(self):
        plan = count_plan()
        for call in (outcomes, disks):
            wanted = repr(call(plan))
            told = call(plan)
            self.assertIs(type(told), list)
            for pair in told:
                self.assertIs(type(pair), tuple)
                self.assertIs(type(pair[1]), list)
                pair[1].append("z")
            self.assertEqual([pair[1][-1] for pair in told], ["z"] * len(told))
            self.assertEqual([pair[1].count("z") for pair in told], [1] * len(told))
            told.clear()
            self.assertEqual(repr(call(plan)), wanted)


class Once(Checks):
    def test_each_disk_is_mended_once(self):
        seen = []

        def mend(hand):
            seen.append(hand.look("a"))
            count_mend(hand)

        plan = Plan(say_work, mend, pages={"a": 0})
        for call in (
            outcomes, disks, not_whole, not_settled, lambda plan: every(plan, lambda told: True),
            lambda plan: least_flushes(plan, [0, 1], lambda told: len(told[0]) == 3),
            lambda plan: is_closed(plan, [page(value) for value in range(4)]),
        ):
            call(plan)
            self.assertEqual(seen, [0, 1, 2, 3])
            seen.clear()


class Disks(Checks):
    def test_least_history_of_each(self):
        self.like(disks(count_plan()), [
            (page(0), []), (page(1), [LATE]), (page(2), [LATE, LATER]), (page(3), [LATE, LATER, LATER]),
        ])

    def test_shorter_histories_first(self):
        def work(hand):
            hand.put("a", 1)
            hand.put("a", 5)

        def mend(hand):
            hand.put("a", {0: 7, 1: 5, 5: 6, 7: 7, 6: 6}[hand.look("a")])

        self.like(disks(plan=Plan(work, mend, pages={"a": 0})), [
            (page(0), []), (page(1), [(1, (ONE,))]), (page(5), [(2, ((2, 0),))]),
            (page(7), [(0, (NONE,)), (2, (ONE,))]), (page(6), [(2, ((2, 0),)), (2, (ONE,))]),
        ])

    def test_the_document_s_example(self):
        self.like([disk for disk, _ in disks(row_plan())], [
            (("a", 0), ("b", 0), ("done", False)), (("a", 1), ("b", 0), ("done", False)),
            (("a", 0), ("b", 1), ("done", False)), (("a", 1), ("b", 1), ("done", False)),
            (("a", 1), ("b", 1), ("done", True)),
        ])


class Closed(Checks):
    def test_the_disks_in_any_order_and_twice(self):
        for plan in (count_plan(), row_plan()):
            rows = [disk for disk, _ in disks(plan)]
            for told in (rows, rows[::-1], rows + rows, rows[2:] + rows[:2] + rows[1:2]):
                self.assertIs(is_closed(plan, told), True)
                self.assertIs(is_closed(plan, tuple(told)), True)
                self.assertIs(is_closed(rows=told, plan=plan), True)

    def test_one_left_out(self):
        for plan in (count_plan(), row_plan()):
            rows = [disk for disk, _ in disks(plan)]
            for at, _ in enumerate(rows):
                self.assertIs(is_closed(plan, rows[:at] + rows[at + 1:]), False)

    def test_others_put_in(self):
        rows = [page(value) for value in range(4)]
        plan = count_plan()
        self.assertIs(is_closed(plan, rows + [page(4)]), True)
        self.assertIs(is_closed(plan, [page(9), *rows, page(8)]), True)
        # Minus one is mended to nothing, which is there, but minus two to minus one, which is not.
        self.assertIs(is_closed(plan, rows + [page(-1)]), True)
        self.assertIs(is_closed(plan, rows + [page(-2)]), False)
        self.assertIs(is_closed(plan, rows + [page(-2), page(-1)]), True)
        self.assertIs(is_closed(plan, [page(-1), page(-2)] + rows), True)

    def test_equal_and_not_the_same(self):
        plan = count_plan()
        self.assertIs(is_closed(plan, [page(0), page(True), page(2), page(3)]), False)
        self.assertIs(is_closed(plan, [page(False), page(1), page(2), page(3)]), False)
        rows = [page(0), page(1), page(2), page(3), page(True)]
        self.assertIs(is_closed(plan, rows), True)

    def test_nothing_is_not_closed(self):
        self.assertIs(is_closed(count_plan(), []), False)
        self.assertIs(is_closed(count_plan(), ()), False)

    def test_things_that_are_no_disks(self):
        rows = [page(value) for value in range(4)]
        for thing in (
            None, 0, True, "a", (), [], ("a", 0), (("a",),), (("a", 0, 0),), (["a", 0],), [("a", 0)],
            (("b", 0),), ((1, 0),), ((None, 0),), (("a", 0), ("b", 0)), (("a", 0), ("a", 0)), (("a", 1.5),),
            (("a", [0]),), (("a", (0, b"")),), (("a", {}),), page(0) + (None,), b"", {}, object(),
        ):
            for told in ([thing], rows + [thing], [thing] + rows, (*rows[:2], thing, *rows[2:])):
                self.assertIs(is_closed(count_plan(), told), False)
        turned = (("b", 0), ("a", 0), ("done", False))
        rows = [disk for disk, _ in disks(row_plan())]
        self.assertIs(is_closed(row_plan(), rows + [turned]), False)
        self.assertIs(is_closed(row_plan(), rows + [rows[0][:2]]), False)

    def test_what_is_equal_to_anything_is_no_disk(self):
        class Anything:
            def __eq__(self, other):
                return True

            def __len__(self):
                return 1

        rows = [page(value) for value in range(4)]
        for thing in (Anything(), ((Anything(), 0),), (("a", Anything()),), (Anything(),)):
            self.assertIs(is_closed(count_plan(), rows + [thing]), False)
        self.assertIs(is_closed(count_plan(), Anything()), False)

    def test_things_that_are_no_lists(self):
        rows = [page(value) for value in range(4)]
        for told in (
            None, 0, True, "rows", b"", 1.5, object(), {}, set(rows), frozenset(rows), dict.fromkeys(rows),
            iter(rows), (row for row in rows), int,
        ):
            self.assertIs(is_closed(count_plan(), told), False)

    def test_what_is_passed_is_not_changed(self):
        rows = [page(value) for value in (3, 1, 0, 2, 1)]
        is_closed(count_plan(), rows)
        self.assertEqual(rows, [page(value) for value in (3, 1, 0, 2, 1)])


if __name__ == "__main__":
    unittest.main()
