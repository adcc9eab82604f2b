"""What several tests need."""

import unittest

from metehouse.errors import MeteError


class Case(unittest.TestCase):
    """A test case that can ask for an error with its attributes."""

    def refused(self, kind, call, *args, **named):
        """The error that the call raises: of just this class, with just these attributes."""
        attributes = named.pop("has", {})
        with self.assertRaises(MeteError) as caught:
            call(*args, **named)
        self.assertIs(caught.exception.__class__, kind)
        self.assertEqual(vars(caught.exception), attributes)
        return caught.exception

    def assertKind(self, value, kind):
        """The value is of this class itself."""
        self.assertIs(value.__class__, kind)
