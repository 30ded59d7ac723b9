"""Tests of fallways/plans.py: promises [3], [5] and [7] to [9]."""

import inspect
import unittest

from fallways.errors import BadLimit, BadName, BadValue
from fallways.hands import perform
from fallways.plans import Plan
from checks import Checks
from samples import NO_VALUES, VALUES

NO_WORDS = [
    "", "A", "aB", "a1", "a_b", "a b", " a", "a ", "a\n", "abcdefghi", "\u00e4", "\u00df",
    "\u03b1", "a\u0301", "\uff41", "`", "{", 0, 1, True, False, None, 1.5, (), ("a",), b"a",
    frozenset(),
]

LIMITS_OF_NO_KIND = [True, False, None, 1.0, 40.0, "40", (40,), [40], b"1", 0, -1, -40, 10 ** 5000]


def work(hand):
    hand.put("a", 1)


def mend(hand):
    hand.put("a", 0)


class Refusing(Checks):
    def not_made(self, kind, attribute, thing, **parts):
        self.refused(kind, attribute, thing, Plan, work, mend, **parts)


class Making(unittest.TestCase):
    def test_parameters(self):
        told = inspect.signature(Plan).parameters
        self.assertEqual(list(told), ["work", "mend", "pages", "torn", "longest", "most"])
        for word in ("pages", "torn", "longest", "most"):
            self.assertIs(told[word].kind, inspect.Parameter.KEYWORD_ONLY)

    def test_by_place_and_by_name(self):
        for plan in (
            Plan(work, pages={"a": 0}),
            Plan(work=work, pages={"a": 0}),
            Plan(work, None, pages={"a": 0}),
            Plan(work, mend, pages={"a": 0}),
            Plan(pages={"a": 0}, mend=mend, work=work),
            Plan(work, work, pages={"a": 0}, torn=("a",), longest=40, most=400),
        ):
            self.assertEqual(plan.start(), (("a", 0),))

    def test_what_is_behind_the_star_goes_by_name_alone(self):
        self.assertRaises(TypeError, Plan, work, mend, {"a": 0})
        self.assertRaises(TypeError, Plan, work, mend)
        self.assertRaises(TypeError, Plan, pages={"a": 0})

    def test_limits_of_a_plan(self):
        plan = Plan(work, pages={"a": 0})
        self.assertEqual((plan.longest, plan.most), (40, 400))
        plan = Plan(work, pages={"a": 0}, longest=7, most=9)
        self.assertEqual((plan.longest, plan.most), (7, 9))

    def test_functions_are_kept(self):
        plan = Plan(work, mend, pages={"a": 0})
        self.assertIs(plan.work, work)
        self.assertIs(plan.mend, mend)
        plan = Plan(work, work, pages={"a": 0})
        self.assertIs(plan.mend, work)

    def test_a_mend_of_none_does_nothing(self):
        for plan in (Plan(work, pages={"a": 0}), Plan(work, None, pages={"a": 0})):
            told = perform(plan.mend, plan.start(), plan.longest)
            self.assertEqual(told, ([], [], ("told", None)))

    def test_functions_are_not_run(self):
        def never(hand):
            raise AssertionError("not to be run")

        plan = Plan(never, never, pages={"a": 0})
        self.assertEqual(plan.names(), ["a"])

    def test_methods_stand_in_the_class(self):
        self.assertEqual(Plan.__module__, "fallways.plans")
        for word in ("__init__", "names", "start"):
            self.assertTrue(inspect.isfunction(vars(Plan)[word]))


class Telling(unittest.TestCase):
    def test_names_ascend_and_are_a_new_list_each_time(self):
        plan = Plan(work, pages={"b": 1, "abc": 2, "ab": 3, "a": 4})
        self.assertEqual(plan.names(), ["a", "ab", "abc", "b"])
        self.assertIsNot(plan.names(), plan.names())
        plan.names().append("z")
        plan.names().clear()
        self.assertEqual(plan.names(), ["a", "ab", "abc", "b"])

    def test_start_is_a_tuple_of_pairs_ascending_by_names(self):
        plan = Plan(work, pages={"b": (1, "x"), "a": None, "c": True})
        self.assertEqual(plan.start(), (("a", None), ("b", (1, "x")), ("c", True)))
        self.assertIs(type(plan.start()), tuple)
        self.assertEqual([type(pair) for pair in plan.start()], [tuple] * 3)

    def test_values_keep_their_kind(self):
        start = Plan(work, pages={"a": 1, "b": True, "c": (0, False)}).start()
        self.assertIs(start[1][1], True)
        self.assertIs(type(start[0][1]), int)
        self.assertIs(start[2][1][1], False)

    def test_later_changes_have_no_effect(self):
        pages = {"b": 1, "a": 0}
        torn = ["b"]
        plan = Plan(work, pages=pages, torn=torn)
        pages["c"] = 5
        pages["a"] = 7
        del pages["b"]
        torn.append("zz")
        torn[0] = 5
        self.assertEqual(plan.names(), ["a", "b"])
        self.assertEqual(plan.start(), (("a", 0), ("b", 1)))
        self.assertEqual(plan.torn, ("b",))

    def test_what_is_passed_is_not_changed(self):
        pages = {"b": 1, "a": (0,)}
        torn = ["b", "a"]
        Plan(work, pages=pages, torn=torn)
        self.assertRaises(BadLimit, Plan, work, pages=pages, torn=torn, most=0)
        self.assertRaises(BadName, Plan, work, pages=pages, torn=[*torn, "c"])
        self.assertEqual(list(pages.items()), [("b", 1), ("a", (0,))])
        self.assertEqual(torn, ["b", "a"])

    def test_two_plans_know_nothing_of_each_other(self):
        first = Plan(work, pages={"a": 0}, longest=1)
        second = Plan(work, pages={"b": 1}, most=1)
        self.assertEqual((first.names(), second.names()), (["a"], ["b"]))
        self.assertEqual((first.longest, second.longest), (1, 40))


class Names(Refusing):
    def test_words(self):
        for name in ("a", "z", "az", "abcdefgh", "zzzzzzzz", "none", "done"):
            self.assertEqual(Plan(work, pages={name: 0}).names(), [name])

    def test_others(self):
        for name in NO_WORDS:
            self.not_made(BadName, "name", name, pages={name: 0})
            self.not_made(BadName, "name", name, pages={"a": 0, name: 0, "B": 0})

    def test_first_one_as_handed_in(self):
        self.not_made(BadName, "name", "Z", pages={"b": 0, "Z": 0, "A": 0})
        self.not_made(BadName, "name", "A", pages={"b": 0, "A": 0, "Z": 0})

    def test_many_pages(self):
        names = ["f", "e", "d", "c", "b", "a"]
        self.assertEqual(Plan(work, pages={name: 0 for name in names}).names(), sorted(names))


class Torn(Refusing):
    def test_lists_and_tuples_of_pages(self):
        pages = {"c": 0, "a": 0, "b": 0}
        for torn in ((), [], ("a",), ["a"], ("c", "a"), ["c", "b", "a"]):
            self.assertEqual(Plan(work, pages=pages, torn=torn).torn, tuple(sorted(torn)))

    def test_what_is_no_page(self):
        for name in [*NO_WORDS, "b", "ab", [], ["a"], {}, {"a"}, object(), float("nan")]:
            self.not_made(BadName, "name", name, pages={"a": 0}, torn=[name])
            self.not_made(BadName, "name", name, pages={"a": 0}, torn=("a", name, "zz"))

    def test_what_stood_there_already(self):
        self.not_made(BadName, "name", "a", pages={"a": 0, "b": 0}, torn=["a", "a"])
        self.not_made(BadName, "name", "b", pages={"a": 0, "b": 0}, torn=("b", "a", "b", "a"))

    def test_first_one_of_several(self):
        pages = {"a": 0, "b": 0}
        self.not_made(BadName, "name", "a", pages=pages, torn=["a", "a", "c"])
        self.not_made(BadName, "name", "c", pages=pages, torn=["a", "c", "a"])

    def test_of_any_length(self):
        pages = {"a": 0}
        self.not_made(BadName, "name", "a", pages=pages, torn=["a"] * 100000)
        self.not_made(BadName, "name", "b", pages=pages, torn=("b",) * 100000)


class Values(Refusing):
    def test_values(self):
        for value in VALUES:
            plan = Plan(work, pages={"a": value})
            self.assertIs(plan.start()[0][1], value)

    def test_others(self):
        for thing in NO_VALUES:
            self.not_made(BadValue, "value", thing, pages={"a": thing})
            self.not_made(BadValue, "value", thing, pages={"b": 0, "a": thing, "c": 2.5})

    def test_first_one_as_handed_in(self):
        first, second = [1], [2]
        self.not_made(BadValue, "value", first, pages={"c": 0, "b": first, "a": second})
        self.not_made(BadValue, "value", second, pages={"c": 0, "b": second, "a": first})

    def test_no_error_a_little_beyond_the_limits(self):
        for value in (10 ** 14, "x" * 30, tuple(range(12)), (((((1,),),),),)):
            self.assertEqual(Plan(work, pages={"a": value}).start(), (("a", value),))
        many = {name: 0 for name in "abcdefgh"}
        self.assertEqual(Plan(work, pages=many).names(), list("abcdefgh"))


class Limits(Refusing):
    def test_both_ends(self):
        for longest in (1, 2, 59, 60):
            self.assertEqual(Plan(work, pages={"a": 0}, longest=longest).longest, longest)
        for most in (1, 2, 61, 1999, 2000):
            self.assertEqual(Plan(work, pages={"a": 0}, most=most).most, most)

    def test_beyond_them_and_of_other_kinds(self):
        for limit in LIMITS_OF_NO_KIND:
            self.not_made(BadLimit, "limit", limit, pages={"a": 0}, longest=limit)
            self.not_made(BadLimit, "limit", limit, pages={"a": 0}, most=limit)
        self.not_made(BadLimit, "limit", 61, pages={"a": 0}, longest=61)
        self.not_made(BadLimit, "limit", 2001, pages={"a": 0}, most=2001)

    def test_longest_ahead_of_most(self):
        self.not_made(BadLimit, "limit", 61, pages={"a": 0}, longest=61, most=0)
        self.not_made(BadLimit, "limit", True, pages={"a": 0}, most=False, longest=True)


class Order(Refusing):
    def test_faults_in_the_order_of_the_text(self):
        worth = [1]
        parts = {"pages": {"a": worth, "B": 0, "C": 0}, "torn": ["d"], "longest": 0, "most": -1}
        self.not_made(BadName, "name", "B", **parts)
        parts["pages"] = {"a": worth, "b": 0}
        self.not_made(BadName, "name", "d", **parts)
        parts["torn"] = ["b", "b"]
        self.not_made(BadName, "name", "b", **parts)
        parts["torn"] = ["b"]
        self.not_made(BadValue, "value", worth, **parts)
        parts["pages"] = {"a": 1, "b": 0}
        self.not_made(BadLimit, "limit", 0, **parts)
        parts["longest"] = 60
        self.not_made(BadLimit, "limit", -1, **parts)
        parts["most"] = 2000
        self.assertEqual(Plan(work, mend, **parts).start(), (("a", 1), ("b", 0)))


if __name__ == "__main__":
    unittest.main()
