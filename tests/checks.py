"""What several tests check alike."""

import unittest


class Checks(unittest.TestCase):
    def refused(self, kind, attribute, thing, call, *told, **named):
        """The call raises just this error, made with this very thing."""
        with self.assertRaises(kind) as caught:
            call(*told, **named)
        self.assertIs(type(caught.exception), kind)
        self.assertIs(getattr(caught.exception, attribute), thing)

    def like(self, told, wanted):
        """Equal, and alike in kind at any depth."""
        self.assertEqual(repr(told), repr(wanted))
