"""Tests of fallways/hands.py: promises [4] and [10] to [14]."""

import inspect
import unittest

from fallways.errors import BadValue, Beyond, Held, NoPage
from fallways.hands import Hand, perform
from checks import Checks
from samples import NO_VALUES, VALUES

DISK = (("a", 0), ("b", (1, "x")))

NO_PAGES = ["", "c", "A", "ab", "a ", 0, 1, True, None, 1.5, (), ("a",), b"a", [], ["a"], {}, {"a"}]

WISHES = [
    lambda hand: hand.look("a"),
    lambda hand: hand.put("a", 1),
    lambda hand: hand.barrier(),
    lambda hand: hand.flush(),
]

# Every method, each also with what it would refuse if it looked at it.
CALLS = [
    *WISHES,
    lambda hand: hand.look("zz"),
    lambda hand: hand.look([]),
    lambda hand: hand.put("zz", 1),
    lambda hand: hand.put("a", [1]),
    lambda hand: hand.put("zz", [1]),
    lambda hand: hand.say(1),
    lambda hand: hand.say([1]),
    lambda hand: hand.fail(1),
    lambda hand: hand.fail([1]),
]


def ran(work, longest=40):
    return perform(work, DISK, longest)


def steps_of(work):
    return ran(work)[0]


def notes_of(work):
    return ran(work)[1]


def end_of(work, longest=40):
    return ran(work, longest)[2]


def take_held(work):
    """Do the work, and go on behind its Held."""
    try:
        work()
    except Held:
        pass


class TheClass(unittest.TestCase):
    def test_six_methods_stand_in_it(self):
        self.assertEqual(Hand.__module__, "fallways.hands")
        for word, parameters in {
            "look": ["self", "page"],
            "put": ["self", "page", "value"],
            "barrier": ["self"],
            "flush": ["self"],
            "say": ["self", "value"],
            "fail": ["self", "value"],
        }.items():
            told = inspect.signature(vars(Hand)[word]).parameters
            self.assertEqual(list(told), parameters)

    def test_functions_get_a_hand_of_their_own(self):
        got = []
        ran(got.append)
        ran(got.append)
        self.assertEqual([type(hand) for hand in got], [Hand, Hand])
        self.assertIsNot(got[0], got[1])


class Wishes(unittest.TestCase):
    def test_each_is_a_step_with_its_answer(self):
        def work(hand):
            hand.look("b")
            hand.put("a", 5)
            hand.look("a")
            hand.barrier()
            hand.flush()

        self.assertEqual(steps_of(work), [
            (("look", "b"), (1, "x")),
            (("put", "a", 5), None),
            (("look", "a"), 5),
            (("barrier",), None),
            (("flush",), None),
        ])

    def test_by_name(self):
        def work(hand):
            hand.put(value=5, page="a")
            hand.say(value=hand.look(page="a"))
            hand.fail(value=6)

        steps, notes, end = ran(work)
        self.assertEqual(steps, [(("put", "a", 5), None), (("look", "a"), 5)])
        self.assertEqual((notes, end), ([(2, 5)], ("failed", 6)))

    def test_look_returns_what_was_put_last(self):
        def work(hand):
            seen = [hand.look("a"), hand.look("b")]
            hand.put("a", 1)
            hand.put("b", 2)
            hand.put("a", 3)
            seen.append(hand.look("a"))
            hand.barrier()
            seen.append(hand.look("b"))
            hand.flush()
            seen.append(hand.look("a"))
            hand.put("a", 0)
            seen.append(hand.look("a"))
            return tuple(seen)

        self.assertEqual(end_of(work), ("told", (0, (1, "x"), 3, 2, 3, 0)))

    def test_look_returns_each_value_in_its_kind(self):
        for value in VALUES:
            def work(hand):
                hand.put("a", value)
                self.assertIs(hand.look("a"), value)
                return value

            self.assertIs(end_of(work)[1], value)

    def test_look_on_a_first_disk_returns_it(self):
        for value in VALUES:
            end = perform(lambda hand: hand.look("page"), (("page", value),), 1)[2]
            self.assertIs(end[1], value)

    def test_others_return_none(self):
        def work(hand):
            for done in (hand.put("a", 1), hand.barrier(), hand.flush(), hand.say(1)):
                self.assertIsNone(done)

        ran(work)

    def test_disk_is_not_changed(self):
        disk = (("a", 0), ("b", 0))
        for _ in range(2):
            end = perform(lambda hand: (hand.look("a"), hand.put("a", 1)), disk, 2)[2]
            self.assertEqual(end, ("told", (0, None)))
        self.assertEqual(disk, (("a", 0), ("b", 0)))

    def test_the_same_answers_the_same_run(self):
        def work(hand):
            hand.put("a", hand.look("a") + 1)
            hand.say(hand.look("a"))

        self.assertEqual(ran(work), ran(work))


class Saying(Checks):
    def test_notes_stand_at_the_steps_done_by_then(self):
        def work(hand):
            hand.say("first")
            hand.put("a", 1)
            hand.say("second")
            hand.say("second")
            hand.flush()
            hand.say(None)

        steps, notes, end = ran(work)
        self.assertEqual(len(steps), 2)
        self.assertEqual(notes, [(0, "first"), (1, "second"), (1, "second"), (2, None)])
        self.assertEqual(end, ("told", None))

    def test_all_values(self):
        def work(hand):
            for value in VALUES:
                hand.say(value)

        self.assertEqual([note[1] for note in notes_of(work)], VALUES)

    def test_no_wish_even_where_no_step_is_left(self):
        def work(hand):
            hand.put("a", 1)
            for number in range(100):
                hand.say(number)

        self.assertEqual(len(ran(work, 1)[1]), 100)


class Ending(Checks):
    def test_told(self):
        for value in VALUES:
            end = end_of(lambda hand: value)
            self.assertEqual(end[0], "told")
            self.assertIs(end[1], value)

    def test_told_nothing(self):
        self.assertEqual(ran(lambda hand: None), ([], [], ("told", None)))

    def test_failed(self):
        for value in VALUES:
            end = end_of(lambda hand: hand.fail(value))
            self.assertEqual(end[0], "failed")
            self.assertIs(end[1], value)

    def test_failed_keeps_what_was_done(self):
        def work(hand):
            hand.put("a", 1)
            hand.say(2)
            hand.fail(3)

        self.assertEqual(ran(work), ([(("put", "a", 1), None)], [(1, 2)], ("failed", 3)))

    def test_what_is_no_value_goes_out(self):
        for thing in NO_VALUES:
            self.refused(BadValue, "value", thing, ran, lambda hand: thing)

    def test_a_function_that_yields_returns_no_value(self):
        def work(hand):
            yield hand.look("a")

        self.assertRaises(BadValue, ran, work)

    def test_errors_of_the_function_go_on_unchanged(self):
        class Own(Exception):
            pass

        for error in (Own(1), KeyError("a"), ValueError("b"), BadValue(3), NoPage(4), Beyond(),
                      KeyboardInterrupt()):
            def work(hand):
                hand.put("a", 1)
                raise error

            with self.assertRaises(type(error)) as caught:
                ran(work)
            self.assertIs(caught.exception, error)
            self.assertIsNone(error.__cause__)
            self.assertIsNone(error.__context__)


class Faults(Checks):
    def faulty(self, work, longest=40):
        """Run a work that must come to its end, and tell what it left behind."""
        reached = []

        def whole(hand):
            work(hand)
            reached.append(True)

        told = ran(whole, longest)
        self.assertEqual(reached, [True])
        return told

    def test_no_page(self):
        def work(hand):
            for name in NO_PAGES:
                self.refused(NoPage, "name", name, hand.look, name)
                self.refused(NoPage, "name", name, hand.put, name, 1)
                self.refused(NoPage, "name", name, hand.put, value=1, page=name)

        self.assertEqual(self.faulty(work), ([], [], ("told", None)))

    def test_bad_value(self):
        def work(hand):
            for thing in NO_VALUES:
                self.refused(BadValue, "value", thing, hand.put, "a", thing)
                self.refused(BadValue, "value", thing, hand.say, thing)
                self.refused(BadValue, "value", thing, hand.fail, thing)
            self.assertEqual(hand.look("a"), 0)

        self.assertEqual(self.faulty(work), ([(("look", "a"), 0)], [], ("told", None)))

    def test_no_page_ahead_of_bad_value(self):
        def work(hand):
            for name in NO_PAGES:
                for thing in NO_VALUES:
                    self.refused(NoPage, "name", name, hand.put, name, thing)

        self.assertEqual(self.faulty(work), ([], [], ("told", None)))

    def test_both_ahead_of_a_wish_too_many(self):
        worth = [1]

        def work(hand):
            hand.flush()
            self.refused(NoPage, "name", "zz", hand.look, "zz")
            self.refused(NoPage, "name", "zz", hand.put, "zz", 1)
            self.refused(NoPage, "name", "zz", hand.put, "zz", worth)
            self.refused(BadValue, "value", worth, hand.put, "a", worth)
            self.refused(BadValue, "value", worth, hand.say, worth)
            self.refused(BadValue, "value", worth, hand.fail, worth)

        self.assertEqual(self.faulty(work, 1), ([(("flush",), None)], [], ("told", None)))

    def test_what_is_not_taken_goes_out(self):
        self.refused(NoPage, "name", "zz", ran, lambda hand: hand.look("zz"))
        worth = (1, [2])
        for call in (
            lambda hand: hand.put("a", worth),
            lambda hand: hand.say(worth),
            lambda hand: hand.fail(worth),
        ):
            self.refused(BadValue, "value", worth, ran, call)

    def test_the_run_goes_on_behind_them(self):
        def work(hand):
            self.assertRaises(NoPage, hand.look, "zz")
            self.assertRaises(BadValue, hand.fail, [1])
            hand.put("a", 1)
            hand.say(2)
            hand.fail(3)

        self.assertEqual(ran(work), ([(("put", "a", 1), None)], [(1, 2)], ("failed", 3)))


class TooLong(unittest.TestCase):
    def test_as_many_wishes_as_may_be(self):
        for longest in (1, 2, 60):
            for wish in WISHES:
                def work(hand):
                    for _ in range(longest):
                        wish(hand)

                self.assertEqual(len(ran(work, longest)[0]), longest)

    def test_one_more_is_held_and_beyond_goes_out(self):
        for longest in (1, 2, 60):
            for wish in WISHES:
                seen = []

                def work(hand):
                    for _ in range(longest):
                        wish(hand)
                    try:
                        wish(hand)
                    except Held as held:
                        seen.append(type(held))
                        raise

                self.assertRaises(Beyond, ran, work, longest)
                self.assertEqual(seen, [Held])

    def test_beyond_whatever_the_function_does(self):
        def endless(hand):
            while True:
                hand.look("a")

        for answer in (None, 1, [1], 2.5):
            def work(hand):
                take_held(lambda: endless(hand))
                return answer

            self.assertRaises(Beyond, ran, work)

    def test_beyond_although_it_fails_behind_it(self):
        def work(hand):
            hand.flush()
            take_held(hand.flush)
            take_held(lambda: hand.fail(1))
            return 2

        self.assertRaises(Beyond, ran, work, 1)

    def test_each_method_is_held_behind_it(self):
        done = []

        def work(hand):
            hand.flush()
            take_held(hand.barrier)
            for call in CALLS:
                with self.assertRaises(Held):
                    call(hand)
                done.append(True)

        self.assertRaises(Beyond, ran, work, 1)
        self.assertEqual(len(done), len(CALLS))


class Failing(unittest.TestCase):
    def test_fail_raises_held(self):
        seen = []

        def work(hand):
            try:
                hand.fail("no")
            except Held as held:
                seen.append(type(held))
                raise

        self.assertEqual(end_of(work), ("failed", "no"))
        self.assertEqual(seen, [Held])

    def test_each_method_is_held_behind_it(self):
        done = []

        def work(hand):
            hand.put("a", 1)
            take_held(lambda: hand.fail("no"))
            for call in CALLS + CALLS:
                with self.assertRaises(Held):
                    call(hand)
                done.append(True)
            return 5

        self.assertEqual(ran(work), ([(("put", "a", 1), None)], [], ("failed", "no")))
        self.assertEqual(len(done), 2 * len(CALLS))

    def test_has_failed_whatever_it_returns(self):
        for answer in [*VALUES, *NO_VALUES]:
            def work(hand):
                try:
                    hand.fail("no")
                except Exception:
                    return answer

            self.assertEqual(end_of(work), ("failed", "no"))

    def test_what_it_does_on_the_way_counts_for_nothing(self):
        def work(hand):
            try:
                hand.fail(1)
            finally:
                take_held(lambda: hand.put("b", 2))
                take_held(lambda: hand.say(3))
                hand.fail(4)

        self.assertEqual(ran(work), ([], [], ("failed", 1)))

    def test_fail_is_no_wish_even_where_no_step_is_left(self):
        def work(hand):
            hand.flush()
            hand.fail(1)

        self.assertEqual(end_of(work, 1), ("failed", 1))

    def test_a_held_of_its_own_goes_on(self):
        def work(hand):
            raise Held()

        self.assertRaises(Held, ran, work)

    def test_a_run_within_a_run(self):
        def inner(hand):
            hand.put("a", 7)
            hand.fail("inner")

        def outer(hand):
            told = perform(inner, DISK, 5)[2]
            hand.say(hand.look("a"))
            return told

        steps, notes, end = ran(outer)
        self.assertEqual((notes, end), ([(1, 0)], ("told", ("failed", "inner"))))
        self.assertEqual(steps, [(("look", "a"), 0)])


if __name__ == "__main__":
    unittest.main()
