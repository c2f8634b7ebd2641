"""Points 8 to 10: passings, tides, the turn of a harbour, and the greatest wait."""

import itertools
import random
import unittest

from tests.helper import HARBOUR, harbour_with, some_harbour
from tidewaits.tides import can_pass, greatest_wait, next_passing, tides, turn_of

FAR = 10 ** 30


def with_depths(*depths):
    return harbour_with(depths=list(depths))


class PassingTest(unittest.TestCase):
    def test_can_pass(self):
        self.assertEqual([can_pass(HARBOUR, 7, hour) for hour in range(6)], [True, True, False, True, True, True])
        self.assertEqual([can_pass(HARBOUR, 8, hour) for hour in range(6)], [True, False, False, False, True, False])
        self.assertIs(can_pass(HARBOUR, 9, 0), True)
        self.assertIs(can_pass(HARBOUR, 10, 0), False)
        self.assertIs(can_pass(HARBOUR, 0, 2), True)
        self.assertIs(can_pass(with_depths(0), 0, 5), True)
        self.assertIs(can_pass(with_depths(0), 1, 5), False)

    def test_can_pass_with_numbers_of_any_size(self):
        self.assertIs(can_pass(HARBOUR, 9, 4 * FAR), True)
        self.assertIs(can_pass(HARBOUR, 9, 4 * FAR + 1), False)
        self.assertIs(can_pass(HARBOUR, FAR, 0), False)
        self.assertIs(can_pass(HARBOUR, FAR, 4 * FAR), False)

    def test_tides(self):
        self.assertEqual(tides(HARBOUR, 7, until=9), [(0, 1), (3, 5), (7, 9)])
        self.assertEqual(tides(HARBOUR, 7, until=10), [(0, 1), (3, 5), (7, 9)])
        self.assertEqual(tides(HARBOUR, 7, until=11), [(0, 1), (3, 5), (7, 9), (11, 11)])
        self.assertEqual(tides(HARBOUR, 8, until=8), [(0, 0), (4, 4), (8, 8)])
        self.assertEqual(tides(with_depths(4, 9, 9), 5, until=6), [(1, 2), (4, 5)])
        self.assertEqual(tides(with_depths(4, 9, 9), 5, until=4), [(1, 2), (4, 4)])

    def test_the_least_hours_that_count(self):
        self.assertEqual(tides(HARBOUR, 7, until=0), [(0, 0)])
        self.assertEqual(tides(with_depths(3, 9), 5, until=0), [])
        self.assertEqual(tides(with_depths(3, 9), 5, until=1), [(1, 1)])

    def test_the_most_hours_that_count(self):
        self.assertEqual(tides(HARBOUR, 4, until=1000), [(0, 1000)])
        found = tides(HARBOUR, 8, until=1000)
        self.assertEqual((len(found), found[0], found[-1]), (251, (0, 0), (1000, 1000)))

    def test_tides_of_all_hours_and_of_none(self):
        self.assertEqual(tides(HARBOUR, 0, until=50), [(0, 50)])
        self.assertEqual(tides(HARBOUR, 10, until=50), [])
        self.assertEqual(tides(HARBOUR, FAR, until=50), [])
        self.assertEqual(tides(with_depths(6), 6, until=7), [(0, 7)])
        self.assertEqual(tides(with_depths(6), 7, until=7), [])

    def test_kinds_of_values(self):
        self.assertIs(type(tides(HARBOUR, 7, until=9)), list)
        self.assertIs(type(tides(HARBOUR, 7, until=9)[0]), tuple)

    def test_tides_by_their_meaning(self):
        chance = random.Random(8)
        for _ in range(300):
            harbour = harbour_with(depths=[chance.randint(0, 4) for _ in range(chance.randint(1, 12))])
            draught, until = chance.randint(0, 5), chance.randint(0, 40)
            passing = [hour for hour in range(until + 1) if harbour[0][hour % len(harbour[0])] >= draught]
            found = tides(harbour, draught, until=until)
            self.assertEqual([hour for start, end in found for hour in range(start, end + 1)], passing)
            for (_, end), (start, _) in zip(found, found[1:]):
                self.assertGreater(start, end + 1)

    def test_next_passing(self):
        self.assertEqual([next_passing(HARBOUR, 8, hour) for hour in range(6)], [0, 4, 4, 4, 4, 8])
        self.assertEqual([next_passing(HARBOUR, 7, hour) for hour in range(4)], [0, 1, 3, 3])
        self.assertEqual(next_passing(HARBOUR, 0, 2), 2)
        self.assertIsNone(next_passing(HARBOUR, 10, 0))
        self.assertIsNone(next_passing(with_depths(0), 1, 3))
        self.assertEqual(next_passing(with_depths(0), 0, 3), 3)
        self.assertEqual(next_passing(with_depths(*([1] * 11 + [2])), 2, 12), 23)

    def test_next_passing_with_numbers_of_any_size(self):
        self.assertEqual(next_passing(HARBOUR, 8, 4 * FAR), 4 * FAR)
        self.assertEqual(next_passing(HARBOUR, 8, 4 * FAR + 1), 4 * FAR + 4)
        self.assertIsNone(next_passing(HARBOUR, FAR, FAR))


class TurnTest(unittest.TestCase):
    def test_depths_that_repeat(self):
        self.assertEqual(turn_of(with_depths(7)), 1)
        self.assertEqual(turn_of(with_depths(7, 7)), 1)
        self.assertEqual(turn_of(with_depths(*[3] * 12)), 1)
        self.assertEqual(turn_of(with_depths(7, 9, 7, 9)), 2)
        self.assertEqual(turn_of(with_depths(1, 2, 1, 1, 2, 1)), 3)
        self.assertEqual(turn_of(with_depths(*[9, 7, 4, 7] * 3)), 4)
        self.assertEqual(turn_of(with_depths(*[1, 2, 3, 4, 5, 6] * 2)), 6)

    def test_depths_that_do_not_repeat(self):
        self.assertEqual(turn_of(HARBOUR), 4)
        self.assertEqual(turn_of(with_depths(7, 9)), 2)
        self.assertEqual(turn_of(with_depths(7, 9, 7)), 3)
        self.assertEqual(turn_of(with_depths(7, 7, 9)), 3)
        self.assertEqual(turn_of(with_depths(1, 1, 2, 1, 1)), 5)
        self.assertEqual(turn_of(with_depths(1, 2, 1, 2, 1)), 5)
        self.assertEqual(turn_of(with_depths(1, 1, 2, 1, 1, 2, 1)), 7)
        self.assertEqual(turn_of(with_depths(*range(12))), 12)
        self.assertEqual(turn_of(with_depths(1, 2, 1, 3)), 4)

    def test_all_short_lists(self):
        for size in range(1, 7):
            for depths in itertools.product(range(2), repeat=size):
                long = list(depths) * 3
                turns = [p for p in range(1, size + 1) if all(long[h] == long[h + p] for h in range(2 * size))]
                self.assertEqual(turn_of(with_depths(*depths)), turns[0], depths)
                self.assertEqual(size % turn_of(with_depths(*depths)), 0)


class GreatestWaitTest(unittest.TestCase):
    def test_the_greatest_wait(self):
        self.assertEqual([greatest_wait(HARBOUR, draught) for draught in (0, 4, 5, 7, 8, 9)], [0, 0, 1, 1, 3, 3])
        self.assertEqual(greatest_wait(with_depths(5), 5), 0)
        self.assertEqual(greatest_wait(with_depths(*([0] * 11 + [9])), 1), 11)
        self.assertEqual(greatest_wait(with_depths(*([9] + [0] * 11)), 9), 11)
        self.assertEqual(greatest_wait(with_depths(0, 5, 0, 0, 5, 0, 0, 0), 5), 4)
        self.assertEqual(greatest_wait(with_depths(0, 0, 5, 0, 5, 0, 0), 5), 4)

    def test_what_never_passes(self):
        for draught in (10, 41, FAR):
            self.assertIsNone(greatest_wait(HARBOUR, draught))
        self.assertIsNone(greatest_wait(with_depths(0), 1))

    def test_the_waits_from_all_hours(self):
        chance = random.Random(10)
        for _ in range(300):
            harbour = some_harbour(chance)
            for draught in range(max(harbour[0]) + 1):
                waits = [next_passing(harbour, draught, hour) - hour for hour in range(30)]
                self.assertEqual(greatest_wait(harbour, draught), max(waits))
                self.assertGreaterEqual(min(waits), 0)

    def test_the_greatest_draughts(self):
        chance = random.Random(11)
        for _ in range(300):
            harbour = some_harbour(chance)
            greatest, least = max(harbour[0]), min(harbour[0])
            self.assertIsNotNone(greatest_wait(harbour, greatest))
            self.assertIsNone(greatest_wait(harbour, greatest + 1))
            self.assertEqual(greatest_wait(harbour, least), 0)
            self.assertEqual(tides(harbour, least, until=30), [(0, 30)])
            self.assertNotEqual(greatest_wait(harbour, least + 1), 0)

    def test_no_wait_is_less_with_a_greater_draught(self):
        chance = random.Random(12)
        for _ in range(100):
            harbour = some_harbour(chance)
            for draught in range(max(harbour[0])):
                for hour in range(24):
                    self.assertLessEqual(next_passing(harbour, draught, hour), next_passing(harbour, draught + 1, hour))
                self.assertLessEqual(greatest_wait(harbour, draught), greatest_wait(harbour, draught + 1))


if __name__ == "__main__":
    unittest.main()
