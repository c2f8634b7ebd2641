"""Points 1, 2 and 7: what harbours and ships are, and the errors of their checks."""

import itertools
import unittest

from tests.helper import HARBOUR, NO_WHOLE_NUMBERS, SHIP_PARTS, SHIPS, error_of, harbour_with, ship_with
from tidewaits.errors import BadNumber, BadShip, BadSize, TideError
from tidewaits.harbours import check_harbour, check_ships, depth_at

FAR = 10 ** 30
# The least and the greatest number for the parts of a harbour, and for those of a ship.
NUMBERS = {"tugs": (0, 6), "pilots": (1, 3), "last": (1, 40)}
LISTS = {"depths": (0, 40, 12), "berths": (1, 9, 2)}
SHIP_NUMBERS = {
    "ready": (0, 20),
    "length": (1, 9),
    "draught": (0, 40),
    "stay": (1, 4),
    "tugs": (0, 3),
    "sea": (0, 9),
    "lie": (0, 9),
}
# One fault for each check of a harbour, in the order of the checks.
FAULTS = [
    ("depths", [], BadSize),
    ("depths", [41], BadNumber),
    ("berths", [], BadSize),
    ("berths", [0], BadNumber),
    ("tugs", 7, BadNumber),
    ("pilots", 0, BadNumber),
    ("last", 0, BadNumber),
]


class HarbourTest(unittest.TestCase):
    def check(self, error, **parts):
        found = error_of(check_harbour, harbour_with(**parts))
        self.assertIs(type(found), error or type(None), parts)

    def test_a_right_harbour(self):
        self.assertIsNone(check_harbour(HARBOUR))
        self.assertIsNone(check_harbour(([0], [1], 0, 1, 1)))
        self.assertIsNone(check_harbour(([40] * 12, [9, 9], 6, 3, 40)))

    def test_bounds_of_single_numbers(self):
        for part, (least, most) in NUMBERS.items():
            for number in range(least, most + 1):
                self.check(None, **{part: number})
            for number in (least - 1, most + 1, -FAR, FAR):
                self.check(BadNumber, **{part: number})

    def test_values_that_are_no_whole_numbers(self):
        for part, value in itertools.product(NUMBERS, NO_WHOLE_NUMBERS):
            self.check(BadNumber, **{part: value})

    def test_sizes_of_lists(self):
        for part, (least, most, longest) in LISTS.items():
            for size in range(1, longest + 1):
                self.check(None, **{part: [least] * size})
                self.check(None, **{part: [most] * size})
            for size in (0, longest + 1, longest + 2, 100):
                self.check(BadSize, **{part: [least] * size})

    def test_bounds_of_numbers_in_lists(self):
        for part, (least, most, longest) in LISTS.items():
            for size in range(1, longest + 1):
                for at in range(size):
                    row = [least + 1] * size
                    for number in (least, most):
                        self.check(None, **{part: row[:at] + [number] + row[at + 1:]})
                    for number in (least - 1, most + 1, -FAR, FAR):
                        self.check(BadNumber, **{part: row[:at] + [number] + row[at + 1:]})

    def test_values_in_lists_that_are_no_whole_numbers(self):
        for part, (least, most, longest) in LISTS.items():
            for at, value in itertools.product(range(longest), NO_WHOLE_NUMBERS):
                row = [most] * longest
                row[at] = value
                self.check(BadNumber, **{part: row})

    def test_the_size_of_a_list_goes_ahead_of_its_numbers(self):
        for part, (least, most, longest) in LISTS.items():
            for value in (least - 1, most + 1, True, None, "1"):
                self.check(BadSize, **{part: [value] * (longest + 1)})

    def test_the_first_fault_is_told(self):
        for first, second in itertools.combinations(FAULTS, 2):
            if first[0] != second[0]:
                self.check(first[2], **{first[0]: first[1], second[0]: second[1]})

    def test_too_long_lists_in_the_order_of_checks(self):
        self.check(BadSize, depths=[1] * 13, berths=[0])
        self.check(BadNumber, depths=[-1], berths=[1, 1, 1])
        self.check(BadNumber, depths=[False], berths=[])
        self.check(BadSize, berths=[1, 1, 1], tugs=None)
        self.check(BadSize, depths=[1] * 13, last=41)

    def test_the_errors_are_errors_of_the_program(self):
        for part, value, error in FAULTS:
            self.assertIsInstance(error_of(check_harbour, harbour_with(**{part: value})), TideError)


class ShipsTest(unittest.TestCase):
    def check(self, name, ships):
        found = error_of(check_ships, ships)
        self.assertIs(type(found), BadShip, ships)
        self.assertEqual(found.ship, name, ships)
        self.assertIs(type(found.ship), int)

    def test_right_ships(self):
        self.assertIsNone(check_ships(SHIPS))
        self.assertIsNone(check_ships([(0, 1, 0, 1, 0, 0, 0)]))
        self.assertIsNone(check_ships([(20, 9, 40, 4, 3, 9, 9)] * 3))

    def test_the_number_of_ships(self):
        for size in (1, 2, 3):
            self.assertIsNone(check_ships([SHIPS[0]] * size))
        for size in (0, 4, 5, 50):
            self.assertIs(type(error_of(check_ships, [SHIPS[0]] * size)), BadSize)

    def test_the_number_of_ships_goes_ahead_of_what_they_are(self):
        wrong = ship_with(stay=0)
        for at in range(4):
            ships = [SHIPS[0]] * 4
            ships[at] = wrong
            self.assertIs(type(error_of(check_ships, ships)), BadSize)

    def test_bounds_of_numbers(self):
        self.assertEqual(tuple(SHIP_NUMBERS), SHIP_PARTS)
        for part, (least, most) in SHIP_NUMBERS.items():
            for number in range(least, most + 1):
                self.assertIsNone(check_ships([ship_with(**{part: number})]), part)
            for number in (least - 1, most + 1, -FAR, FAR):
                self.check(0, [ship_with(**{part: number})])

    def test_values_that_are_no_whole_numbers(self):
        for part, value in itertools.product(SHIP_NUMBERS, NO_WHOLE_NUMBERS):
            self.check(0, [ship_with(**{part: value})])
            self.check(1, [SHIPS[0], ship_with(**{part: value}), SHIPS[1]])

    def test_the_first_wrong_ship_is_told(self):
        right = SHIPS[0]
        wrong = [ship_with(**{part: most + 1}) for part, (least, most) in SHIP_NUMBERS.items()]
        for one, other in itertools.permutations(wrong, 2):
            self.check(0, [one, other])
            self.check(0, [one, right, other])
            self.check(1, [right, one, other])
        for one in wrong:
            self.check(2, [right, right, one])
            self.check(0, [one, one, one])

    def test_two_numbers_of_a_ship_that_are_wrong(self):
        self.check(0, [ship_with(ready=-1, lie=10)])
        self.check(1, [SHIPS[0], ship_with(stay=None, tugs=4)])


class DepthTest(unittest.TestCase):
    def test_depths_come_again_and_again(self):
        harbour = harbour_with(depths=[3, 0, 40])
        self.assertEqual([depth_at(harbour, hour) for hour in range(8)], [3, 0, 40, 3, 0, 40, 3, 0])

    def test_one_depth_and_twelve(self):
        self.assertEqual([depth_at(harbour_with(depths=[6]), hour) for hour in (0, 1, 12, 99)], [6] * 4)
        harbour = harbour_with(depths=list(range(12)))
        for hour in range(60):
            self.assertEqual(depth_at(harbour, hour), hour % 12)

    def test_hours_of_any_size(self):
        harbour = harbour_with(depths=[3, 0, 40])
        for hour in (10 ** 30, 10 ** 30 + 1, 10 ** 30 + 2, 7 ** 99):
            self.assertEqual(depth_at(harbour, hour), [3, 0, 40][hour % 3])


if __name__ == "__main__":
    unittest.main()
