"""What the tests share: a check of errors by class and kept value, and values of all kinds."""

import unittest


class Agreeing:
    """An object that calls itself equal to everything, and has no hash."""

    def __eq__(self, other):
        return True

    __hash__ = None


# Nothing of this is an integer, a tuple of integers or an object of the package.
ODD = [None, True, False, "", "0", "1", "all", b"1", (), [], [0], {}, {0: 1}, (None,), (True,), ((),), ([],),
       (((0,),),), [(0,)], "a b", object(), Agreeing(), int, range(3)]

LONG = 10 ** 59 + 7


def written(value):
    """How a value is written: 1 and True, a tuple and a list differ here, though == may call them equal."""
    return repr(value)


class Case(unittest.TestCase):

    def same(self, value, expected):
        """Both are equal, and of the same kinds throughout."""
        self.assertEqual(written(value), written(expected))

    def fails(self, error, value, function, *given, **named):
        """The call raises just this error, which keeps just this value."""
        with self.assertRaises(error) as caught:
            function(*given, **named)
        self.assertIs(caught.exception.__class__, error)
        self.same(list(vars(caught.exception).values()), [value])

    def changed_freely(self, told):
        """Lists that a call returns are new ones: changing one has no effect on the next."""
        first = told()
        kept = list(first)
        first.append("more")
        first.reverse()
        self.same(told(), kept)
