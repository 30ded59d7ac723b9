"""Tests of what falls keep and leave: promises [15] to [18] and [21]."""

import unittest

from fallways.errors import BadFall
from fallways.plans import Plan
from fallways.repairs import flushed, spared
from fallways.runs import Run
from checks import Checks

PARTS = ((0, 0), (0, 1), (1, 0))


def puts(*rows):
    """A work that puts pairs, and asks for guards by their words."""
    def work(hand):
        for row in rows:
            if row == "barrier":
                hand.barrier()
            elif row == "flush":
                hand.flush()
            elif row == "look":
                hand.look("a")
            else:
                hand.put(*row)

    return work


def run_of(*rows, torn=(), **pages):
    return Run.of(Plan(puts(*rows), pages=pages, torn=torn))


class Kept(Checks):
    def test_nothing_is_late(self):
        run = run_of("look", "barrier", "flush", a=0, b=0)
        for moment in range(4):
            self.assertEqual(run.kept_at(moment), [((0, 0), (0, 0))])

    def test_puts_of_one_page(self):
        run = run_of(("a", 1), ("a", 2), ("a", 2), a=0)
        self.assertEqual(
            [run.kept_at(moment) for moment in range(4)],
            [[((count, 0),) for count in range(many)] for many in range(1, 5)],
        )

    def test_pages_of_one_epoch_go_each_its_own_way(self):
        run = run_of(("b", 1), ("a", 1), ("b", 2), a=0, b=0)
        self.assertEqual(run.kept_at(3), [
            ((0, 0), (0, 0)), ((0, 0), (1, 0)), ((0, 0), (2, 0)),
            ((1, 0), (0, 0)), ((1, 0), (1, 0)), ((1, 0), (2, 0)),
        ])

    def test_an_epoch_waits_for_those_before(self):
        run = run_of(("b", 1), ("a", 1), "barrier", ("a", 2), a=0, b=0)
        self.assertEqual(run.kept_at(4), [
            ((0, 0), (0, 0)), ((0, 0), (1, 0)), ((1, 0), (0, 0)), ((1, 0), (1, 0)),
            ((2, 0), (1, 0)),
        ])

    def test_empty_epochs(self):
        run = run_of("barrier", ("a", 1), "barrier", "barrier", ("b", 1), "barrier", a=0, b=0)
        self.assertEqual(run.kept_at(6), [((0, 0), (0, 0)), ((1, 0), (0, 0)), ((1, 0), (1, 0))])

    def test_three_epochs(self):
        run = run_of(("a", 1), "barrier", ("b", 1), ("b", 2), "barrier", ("a", 2), ("b", 3), a=0, b=0)
        self.assertEqual(run.kept_at(7), [
            ((0, 0), (0, 0)), ((1, 0), (0, 0)), ((1, 0), (1, 0)), ((1, 0), (2, 0)),
            ((1, 0), (3, 0)), ((2, 0), (2, 0)), ((2, 0), (3, 0)),
        ])

    def test_a_flush_keeps_all_before(self):
        run = run_of(("a", 1), ("a", 2), "flush", ("a", 3), a=0)
        self.assertEqual(run.kept_at(2), [((0, 0),), ((1, 0),), ((2, 0),)])
        self.assertEqual(run.kept_at(3), [((0, 0),)])
        self.assertEqual(run.kept_at(4), [((0, 0),), ((1, 0),)])

    def test_six_pages_ascend_by_their_names(self):
        run = run_of(("f", 1), "barrier", ("a", 1), **{name: 0 for name in "fedcba"})
        none = (0, 0)
        self.assertEqual(run.kept_at(3), [
            (none,) * 6, (none,) * 5 + ((1, 0),), ((1, 0),) + (none,) * 4 + ((1, 0),),
        ])

    def test_by_name(self):
        self.assertEqual(run_of(("a", 1), a=0).kept_at(moment=1), [((0, 0),), ((1, 0),)])


class Torn(Checks):
    def test_parts_of_one_put(self):
        run = run_of(("a", (1, 2, 3)), a=(7, 8, 9), torn=["a"])
        self.assertEqual(run.kept_at(1), [((0, 0),), ((0, 1),), ((0, 2),), ((1, 0),)])
        self.assertEqual(
            [run.left_by((1, kept)) for kept in run.kept_at(1)],
            [(("a", value),) for value in ((7, 8, 9), (1, 8, 9), (1, 2, 9), (1, 2, 3))],
        )

    def test_only_where_the_page_may_be_torn(self):
        run = run_of(("a", (1, 2)), ("b", (1, 2)), a=(0, 0), b=(0, 0), torn=["b"])
        self.assertEqual(run.kept_at(2), [
            ((0, 0), (0, 0)), ((0, 0), (0, 1)), ((0, 0), (1, 0)),
            ((1, 0), (0, 0)), ((1, 0), (0, 1)), ((1, 0), (1, 0)),
        ])

    def test_only_tuples_of_one_length(self):
        for value in (0, None, "ab", (), (0,), (0, 0, 0), ((0, 0),), True):
            run = run_of(("a", (1, 2)), a=value, torn=["a"])
            self.assertEqual(run.kept_at(1), [((0, 0),), ((1, 0),)])
            run = run_of(("a", value), a=(1, 2), torn=["a"])
            self.assertEqual(run.kept_at(1), [((0, 0),), ((1, 0),)])
        for value in ((), (1,)):
            run = run_of(("a", value), a=value, torn=["a"])
            self.assertEqual(run.kept_at(1), [((0, 0),), ((1, 0),)])

    def test_the_elder_value_is_that_of_the_kept_ones(self):
        run = run_of(("a", (1, 1)), ("a", 5), ("a", (2, 2)), ("a", (3, 3)), a=(0, 0), torn=["a"])
        self.assertEqual(run.kept_at(4), [
            ((0, 0),), ((0, 1),), ((1, 0),), ((2, 0),), ((3, 0),), ((3, 1),), ((4, 0),),
        ])
        self.assertEqual(
            [run.left_by((4, kept))[0][1] for kept in run.kept_at(4)],
            [(0, 0), (1, 0), (1, 1), 5, (2, 2), (3, 2), (3, 3)],
        )

    def test_only_a_put_of_the_next_epoch(self):
        run = run_of(("a", (1, 1)), ("b", (1, 1)), "barrier", ("a", (2, 2)), a=(0, 0), b=(0, 0), torn=["a", "b"])
        kept = run.kept_at(4)
        self.assertEqual(kept[:9], [(one, other) for one in PARTS for other in PARTS])
        self.assertEqual(kept[9:], [((1, 1), (1, 0)), ((2, 0), (1, 0))])
        self.assertEqual(run.left_by((4, ((1, 1), (1, 0)))), (("a", (2, 1)), ("b", (1, 1))))

    def test_ahead_of_a_later_epoch_it_is_over_what_the_flush_left(self):
        run = run_of(
            ("a", (9, 9)), "flush", ("b", 1), "barrier", ("a", (1, 1)), a=(0, 0), b=0, torn=["a"]
        )
        self.assertEqual(run.kept_at(5), [
            ((0, 0), (0, 0)), ((0, 0), (1, 0)), ((0, 1), (1, 0)), ((1, 0), (1, 0)),
        ])
        self.assertEqual(run.left_by((5, ((0, 1), (1, 0)))), (("a", (1, 9)), ("b", 1)))

    def test_things_of_any_kind(self):
        run = run_of(("a", (True, (1, 2), None)), a=(1, "x", (0,)), torn=["a"])
        self.like(
            [run.left_by((1, kept))[0][1] for kept in run.kept_at(1)],
            [(1, "x", (0,)), (True, "x", (0,)), (True, (1, 2), (0,)), (True, (1, 2), None)],
        )

    def test_a_part_that_changes_nothing_is_kept_all_the_same(self):
        run = run_of(("a", (0, 1)), a=(0, 0), torn=["a"])
        self.assertEqual(run.kept_at(1), [((0, 0),), ((0, 1),), ((1, 0),)])
        self.assertEqual(run.left_by((1, ((0, 1),))), (("a", (0, 0)),))

    def test_tuples_of_eight(self):
        run = run_of(("a", (1,) * 8), a=(0,) * 8, torn=["a"])
        self.assertEqual(run.kept_at(1), [*[((0, part),) for part in range(8)], ((1, 0),)])

    def test_spared_guards_and_flushes_put_in(self):
        plan = Plan(
            puts(("b", 1), "barrier", ("a", (1, 1)), "flush", ("a", (2, 2))),
            pages={"a": (0, 0), "b": 0}, torn=["a"],
        )
        self.assertEqual(len(Run.of(plan).kept_at(3)), 4)
        self.assertEqual(len(Run.of(spared(plan, [1])).kept_at(3)), 6)
        run = Run.of(spared(plan, [3]))
        self.assertEqual(run.left_by((5, ((1, 1), (1, 0)))), (("a", (2, 1)), ("b", 1)))
        run = Run.of(flushed(plan, [0]))
        self.assertEqual(run.kept_at(1), [((0, 0), (0, 0))])
        self.assertEqual(run.kept_at(3), [((0, 0), (0, 0)), ((0, 1), (0, 0)), ((1, 0), (0, 0))])


class LeftBy(Checks):
    def test_the_last_kept_put_or_the_flushed_value(self):
        run = run_of(("a", 1), "flush", ("a", 2), ("b", "x"), ("a", True), a=0, b=None)
        self.like(run.left_by((5, ((0, 0), (0, 0)))), (("a", 1), ("b", None)))
        self.like(run.left_by((5, ((1, 0), (0, 0)))), (("a", 2), ("b", None)))
        self.like(run.left_by((5, ((2, 0), (1, 0)))), (("a", True), ("b", "x")))
        self.like(run.left_by((0, ((0, 0), (0, 0)))), (("a", 0), ("b", None)))
        self.like(run.left_by((1, ((1, 0), (0, 0)))), (("a", 1), ("b", None)))
        self.like(run.left_by(fall=(2, ((0, 0), (0, 0)))), (("a", 1), ("b", None)))

    def test_what_is_no_fall(self):
        run = run_of(("a", (1, 1)), "barrier", ("b", 1), "flush", ("a", (2, 2)), a=(0, 0), b=0, torn=["a"])
        good = (3, ((0, 1), (0, 0)))
        self.like(run.left_by(good), (("a", (1, 0)), ("b", 0)))
        for fall in (
            None, 0, True, "fall", (), [], {}, 1.5, object(), b"", (3,), good + (0,), list(good),
            (3, list(good[1])), (3, ([0, 1], (0, 0))), (3, ((0, 1), [0, 0])), (3, None), (3, 0),
            (3, ()), (3, ((0, 1),)), (3, good[1] + ((0, 0),)), (3, ((0, 1), (0,))),
            (3, ((0, 1, 0), (0, 0))), (3, ((0, 1), 0)), (3, ((0, 1), None)), (3, ("01", (0, 0))),
            (True, ((0, 0), (0, 0))), (False, ((0, 0), (0, 0))), (3, ((0, True), (0, 0))),
            (3, ((False, 1), (0, 0))), (3, ((0, 1), (0, False))), (3.0, good[1]), ("3", good[1]),
            (None, good[1]), (3, ((0, 1.0), (0, 0))), (3, ((0, 1), (0, 0.0))), (3, (("0", 1), (0, 0))),
            (3, ((None, 1), (0, 0))), (-1, ((0, 0), (0, 0))), (6, ((0, 0), (0, 0))), (10 ** 5000, good[1]),
            (0, good[1]), (2, ((0, 0), (1, 0))), (3, ((0, 0), (1, 0))), (3, ((0, 1), (1, 0))),
            (3, ((0, 2), (0, 0))), (3, ((1, 1), (0, 0))), (3, ((2, 0), (0, 0))), (3, ((-1, 0), (0, 0))),
            (3, ((0, -1), (0, 0))), (3, ((1, 0), (0, 1))), (4, ((1, 0), (1, 0))), (4, good[1]),
            (5, ((0, 2), (0, 0))), (5, ((2, 0), (0, 0))), (good,), [good],
        ):
            self.refused(BadFall, "fall", fall, run.left_by, fall)
            self.refused(BadFall, "fall", fall, run.left_by, fall=fall)

    def test_falls_of_other_moments(self):
        run = run_of(("a", 1), ("a", 2), "flush", a=0)
        for moment, many in ((0, 1), (1, 2), (2, 3), (3, 1)):
            for count in range(4):
                fall = (moment, ((count, 0),))
                if count < many:
                    run.left_by(fall)
                else:
                    self.refused(BadFall, "fall", fall, run.left_by, fall)


class Lefts(Checks):
    def test_least_fall_of_each_disk(self):
        run = run_of(("a", 1), ("b", 1), ("a", 0), ("b", 0), a=0, b=0)
        self.like(run.lefts(), [
            ((("a", 0), ("b", 0)), (0, ((0, 0), (0, 0)))),
            ((("a", 1), ("b", 0)), (1, ((1, 0), (0, 0)))),
            ((("a", 0), ("b", 1)), (2, ((0, 0), (1, 0)))),
            ((("a", 1), ("b", 1)), (2, ((1, 0), (1, 0)))),
        ])

    def test_values_that_are_equal_and_not_the_same(self):
        run = run_of(("a", 1), ("a", True), ("a", (1,)), ("a", (True,)), ("a", 1), ("a", False), a=0)
        self.like(run.lefts(), [
            ((("a", 0),), (0, ((0, 0),))),
            ((("a", 1),), (1, ((1, 0),))),
            ((("a", True),), (2, ((2, 0),))),
            ((("a", (1,)),), (3, ((3, 0),))),
            ((("a", (True,)),), (4, ((4, 0),))),
            ((("a", False),), (6, ((6, 0),))),
        ])

    def test_ascending_by_the_falls_not_by_the_disks(self):
        run = run_of(("a", 5), "flush", ("a", 3), ("a", 4), a=9)
        self.like(run.lefts(), [
            ((("a", 9),), (0, ((0, 0),))),
            ((("a", 5),), (1, ((1, 0),))),
            ((("a", 3),), (3, ((1, 0),))),
            ((("a", 4),), (4, ((2, 0),))),
        ])

    def test_torn_parts_that_leave_the_same(self):
        run = run_of(("a", (0, 1)), ("a", (1, 1)), a=(0, 0), torn=("a",))
        self.like(run.lefts(), [
            ((("a", (0, 0)),), (0, ((0, 0),))),
            ((("a", (0, 1)),), (1, ((1, 0),))),
            ((("a", (1, 1)),), (2, ((1, 1),))),
        ])

    def test_kinds(self):
        told = run_of(("a", 1), a=0).lefts()
        self.assertIs(type(told), list)
        self.assertIs(type(told[0]), tuple)


if __name__ == "__main__":
    unittest.main()
