"""What the tests of several files ask in the same way."""

import operator
import unittest

SIGNS = (
    operator.lt, operator.le, operator.gt, operator.ge, operator.add, operator.sub, operator.mul, operator.floordiv,
    operator.truediv, operator.mod, operator.pow, operator.and_, operator.or_, operator.xor, operator.lshift,
    operator.rshift, operator.matmul,
)


class Case(unittest.TestCase):

    def refused(self, error, function, *values, **named):
        """The error itself; fails if another one or none is raised."""
        with self.assertRaises(error) as caught:
            function(*values, **named)
        self.assertIs(caught.exception.__class__, error)
        return caught.exception

    def refuses(self, error, wrong, function, *values):
        """Fails if it is not just the wrong value, the last one that is passed, that the error tells."""
        told = self.refused(error, function, *values, wrong)
        self.assertIs(told.value, wrong)

    def has_no_operators(self, thing, others):
        """Fails if an operator but == and != takes the thing with itself or one of the other values."""
        for sign in SIGNS:
            for value in (thing, *others, 1, None, True, "a", ("a", "b", "c"), [1], {}, {1}, object()):
                with self.assertRaises(TypeError):
                    sign(thing, value)
                # What a text does by its own sign, the thing cannot tell.
                if not isinstance(value, str) or sign is not operator.mod:
                    with self.assertRaises(TypeError):
                        sign(value, thing)
        for sign in (operator.neg, operator.pos, operator.invert):
            with self.assertRaises(TypeError):
                sign(thing)
