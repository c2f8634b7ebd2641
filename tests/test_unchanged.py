"""No argument is changed, and what is returned can be changed without changing a later answer."""

import copy
import unittest

from tests.helper import HARBOUR, PLAN, SHIPS
from tidewaits import harbours, texts, tides
from tidewaits.errors import Clash

TEXT = "tide 9 7 4 7\nberths 5\ntugs 2\npilots 1\nlast 20\nship 0 5 6 2 1 3 1\nship 1 4 8 1 2 2 2\n"
SHIP = (1, 4, 7, 3, 2, 1, 5)
CALLS = [
    (harbours.check_harbour, [HARBOUR], {}),
    (harbours.check_ships, [SHIPS], {}),
    (harbours.depth_at, [HARBOUR, 7], {}),
    (harbours.wrong_in, [HARBOUR, SHIPS, PLAN], {}),
    (harbours.wrong_in, [HARBOUR, SHIPS, [(0, 0, 3), (3, 0, 8)]], {}),
    (harbours.is_plan, [HARBOUR, SHIPS, PLAN], {}),
    (harbours.waits, [SHIPS, PLAN], {}),
    (harbours.cost_of, [SHIPS, PLAN], {}),
    (harbours.hour_costs, [SHIPS, PLAN], {}),
    (tides.can_pass, [HARBOUR, 7, 2], {}),
    (tides.tides, [HARBOUR, 7], {"until": 9}),
    (tides.tides, [HARBOUR, 10], {"until": 9}),
    (tides.next_passing, [HARBOUR, 8, 3], {}),
    (tides.turn_of, [HARBOUR], {}),
    (tides.greatest_wait, [HARBOUR, 8], {}),
    (tides.soonest, [HARBOUR, SHIP], {}),
    (tides.cheapest, [HARBOUR, SHIP], {}),
    (tides.cost_alone, [HARBOUR, SHIP], {}),
    (texts.write_harbour, [HARBOUR, SHIPS], {}),
    (texts.read_harbour, [TEXT], {}),
    (texts.write_plan, [PLAN], {}),
    (texts.read_plan, [HARBOUR, SHIPS, "in 0 berth 0 out 3\nin 4 berth 0 out 8\n"], {}),
    (texts.timetable, [HARBOUR, SHIPS, PLAN], {}),
]


def spoil(value):
    """Change all lists in a value."""
    if isinstance(value, (list, tuple)):
        for part in value:
            spoil(part)
    if isinstance(value, list):
        value.append("spoilt")
        value.reverse()


def lists_in(value):
    """All lists in a value, itself with them."""
    found = [value] if isinstance(value, list) else []
    if isinstance(value, (list, tuple)):
        for part in value:
            found.extend(lists_in(part))
    return found


class UnchangedTest(unittest.TestCase):
    def test_arguments_stay_as_they_are(self):
        for function, arguments, more in CALLS:
            with self.subTest(function.__name__):
                handed = copy.deepcopy(arguments)
                function(*handed, **more)
                self.assertEqual(handed, arguments)

    def test_arguments_stay_as_they_are_when_an_error_is_raised(self):
        harbour = ([9, 41, 3], [5, 4], 7, 0, 41)
        ships = [SHIP, (1, 0, 7, 3, 2, 1, 5), SHIP]
        handed = copy.deepcopy((harbour, ships))
        for check, value in zip((harbours.check_harbour, harbours.check_ships), handed):
            with self.assertRaises(ValueError):
                check(value)
        self.assertEqual(handed, (harbour, ships))

    def test_what_is_returned_may_be_changed(self):
        for function, arguments, more in CALLS:
            with self.subTest(function.__name__):
                handed = copy.deepcopy(arguments)
                first = function(*handed, **more)
                kept = copy.deepcopy(first)
                spoil(first)
                self.assertEqual(handed, arguments)
                self.assertEqual(function(*handed, **more), kept)

    def test_what_is_returned_shares_no_list(self):
        for function, arguments, more in CALLS:
            with self.subTest(function.__name__):
                handed = copy.deepcopy(arguments)
                first, second = function(*handed, **more), function(*handed, **more)
                known = lists_in(first) + lists_in(handed)
                for found in lists_in(second):
                    self.assertFalse(any(found is one for one in known))

    def test_an_answer_follows_a_changed_argument(self):
        harbour = copy.deepcopy(HARBOUR)
        self.assertEqual(tides.turn_of(harbour), 4)
        self.assertEqual(harbours.depth_at(harbour, 0), 9)
        harbour[0][:] = [3, 3]
        harbour[1][0] = 1
        self.assertEqual(tides.turn_of(harbour), 1)
        self.assertEqual(harbours.depth_at(harbour, 0), 3)
        self.assertEqual(tides.greatest_wait(harbour, 3), 0)
        self.assertIsNone(tides.soonest(harbour, SHIP))

    def test_the_ships_of_a_clash(self):
        ships = [0, 2]
        self.assertEqual(Clash(ships).ships, [0, 2])
        self.assertEqual(ships, [0, 2])


if __name__ == "__main__":
    unittest.main()
