"""Tests of fallways/values.py: promises [3] and [6]."""

import unittest

from fallways.values import is_value, mark, same
from samples import NO_VALUES, VALUES


class IsValue(unittest.TestCase):
    def test_values(self):
        for value in VALUES:
            self.assertIs(is_value(value), True, value)

    def test_others(self):
        for thing in NO_VALUES:
            self.assertIs(is_value(thing), False, thing)

    def test_what_is_a_little_beyond_the_limits_is_a_value(self):
        for value in (10 ** 13, 10 ** 5000, "x" * 21, tuple(range(9)), (((((((1,),),),),),),)):
            self.assertIs(is_value(value), True)


class Same(unittest.TestCase):
    def test_each_value_is_the_same_as_itself_alone(self):
        for at, value in enumerate(VALUES):
            for place, other in enumerate(VALUES):
                self.assertIs(same(value, other), at == place, (value, other))

    def test_identity_does_not_matter(self):
        self.assertIs(same(10 ** 11 + 1, int("100000000001")), True)
        self.assertIs(same((1, ("a", None)), tuple([1, tuple(["a", None])])), True)

    def test_truths_are_the_same_as_no_integers(self):
        for truth, number in ((True, 1), (False, 0)):
            self.assertIs(same(truth, truth), True)
            self.assertIs(same(truth, number), False)
            self.assertIs(same(number, truth), False)
            self.assertIs(same((2, (truth,)), (2, (number,))), False)
            self.assertIs(same((2, (truth,)), (2, (truth,))), True)

    def test_marks_are_flat_and_tell_the_same(self):
        for value in VALUES:
            self.assertFalse([part for part in mark(value) if isinstance(part, tuple)])
        self.assertEqual(len({mark(value) for value in VALUES}), len(VALUES))


if __name__ == "__main__":
    unittest.main()
