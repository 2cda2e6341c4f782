"""What the tests share: comparing errors, and numbers that look irregular but are always the same."""

import unittest

BIG = 10 ** 17


class Case(unittest.TestCase):
    def assert_fails(self, expected, call):
        """The call raises an error of the very class of the expected one, with the same attributes."""
        with self.assertRaises(type(expected)) as caught:
            call()
        self.assertIs(type(caught.exception), type(expected))
        self.assertEqual(vars(caught.exception), vars(expected))

    def caught(self, error, call):
        """Return the error of this very class that the call raises."""
        with self.assertRaises(error) as caught:
            call()
        self.assertIs(type(caught.exception), error)
        return caught.exception


class Numbers:
    """Irregular numbers, the same in each run."""

    def __init__(self, seed):
        self.state = seed

    def below(self, limit):
        self.state = (self.state * 6364136223846793005 + 1442695040888963407) % (1 << 64)
        return (self.state >> 33) % limit

    def between(self, least, most):
        return least + self.below(most - least + 1)

    def choice(self, rows):
        return rows[self.below(len(rows))]
