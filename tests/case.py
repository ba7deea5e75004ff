"""What the tests of several files ask in the same way."""

import unittest


class Case(unittest.TestCase):

    def refused(self, error, function, *values, **named):
        """The error itself; fails if another one or none is raised."""
        with self.assertRaises(error) as caught:
            function(*values, **named)
        self.assertIs(caught.exception.__class__, error)
        return caught.exception

    def refuses(self, error, wrong, function, *values):
        """Fails if it is not just the wrong value, the last one that is passed, that the error tells."""
        told = self.refused(error, function, *values, wrong)
        self.assertIs(told.value, wrong)
