"""What several test files share: things that are no numbers, sample problems, and the test of a refusal."""

import unittest

from wholecut.errors import CutError
from wholecut.problems import Problem

# In the place of a number each of these is refused, wherever it stands.
NO_NUMBERS = (True, False, "1", None, 1.0, [1], (1,), b"1")

# In the place of a list of numbers or of pairs each of these is refused.
NO_LISTS = (None, True, 0, 1, "", "1", {}, {0: 1}, ())


def three():
    """A problem of three unknowns, with rows of both words."""
    rows = [((2, -3, 0), "most", 7), ((1, 1, 1), "least", 2), ((-50, 0, 50), "least", -2000)]
    return Problem([4, 3, 2], rows, [5, -1, 2])


def changed(told, place, thing):
    """A copy of a list or tuple with another thing at the place."""
    items = list(told)
    items[place] = thing
    return tuple(items) if isinstance(told, tuple) else items


class RefusalTest(unittest.TestCase):
    def refused(self, error, action, *told):
        """The action is refused by this very class, which CutError and ValueError take too."""
        with self.assertRaises(ValueError, msg=repr(told)) as caught:
            action(*told)
        self.assertIs(type(caught.exception), error, repr(told))
        self.assertIsInstance(caught.exception, CutError)
