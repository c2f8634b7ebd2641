"""What the tests of consoles share."""

import unittest

from tests.helper import harbour_with
from tidewaits.console import Console

# One berth, deep enough: ships in a row go out at 2, 5 and 8 at the soonest.
ROW = ([9], [9], 3, 3, 9)
LIGHT = (0, 1, 0, 1, 0, 1, 1)


def so_now(console):
    """All that a console tells, but its journal and what can be undone and redone."""
    return (
        console.harbour(), console.ships(), console.promises(), console.plan(), console.state(), console.cost(),
        console.now, len(console),
    )


def shown(console):
    """All that a console tells."""
    return (*so_now(console), console.can_undo, console.can_redo, console.journal())


def row_of(many, *, last=9):
    """A console for ships in a row."""
    return Console(harbour_with(ROW, last=last), [LIGHT] * many)


class ConsoleTest(unittest.TestCase):
    def check_error(self, console, error, deed, *told):
        """The deed raises the error, and changes nothing; the error is returned."""
        before = shown(console)
        with self.assertRaises(error) as caught:
            deed(*told)
        self.assertIs(type(caught.exception), error)
        self.assertEqual(shown(console), before)
        return caught.exception
