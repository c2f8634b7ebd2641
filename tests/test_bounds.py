"""Points 53 to 56: costs of groups, partings and their bounds, the closest parting, extras, days."""

import random
import unittest

from tests.all_plans import console_case, least_of_all, model_steps, number
from tests.helper import HARBOUR, SHIPS, harbour_with, ship_with
from tidewaits.best import least_cost
from tidewaits.bounds import closest_parting, days_that_pay, extra_of, group_cost, parting_bound, shortest_day
from tidewaits.needs import added_by

# One berth, deep enough: ships in a row come in at 0, 3 and 6.
ROW = ([9], [9], 3, 3, 20)
LIGHT = (0, 1, 0, 1, 0, 1, 1)
THREE = [LIGHT, LIGHT, LIGHT]
LONG = ship_with(LIGHT, length=10)
# All partings of ships, in order, those of one group last.
PARTINGS = {
    1: [[[0]]],
    2: [[[0], [1]], [[0, 1]]],
    3: [[[0], [1], [2]], [[0], [1, 2]], [[0, 1], [2]], [[0, 2], [1]], [[0, 1, 2]]],
}


class GroupTest(unittest.TestCase):
    def test_groups(self):
        self.assertEqual([group_cost(ROW, THREE, names) for names in ([0], [0, 1], [1, 2], [0, 1, 2])], [0, 3, 3, 9])
        self.assertEqual([group_cost(HARBOUR, SHIPS, names) for names in ([0], [1], [0, 1])], [0, 10, 10])

    def test_which_ships_they_are(self):
        ships = [ship_with(LIGHT, sea=7), ship_with(LIGHT, sea=5), ship_with(LIGHT, sea=6)]
        self.assertEqual([group_cost(ROW, ships, names) for names in ([0, 1], [0, 2], [1, 2])], [15, 18, 15])

    def test_no_plan(self):
        ships = [LIGHT, LONG]
        self.assertEqual([group_cost(ROW, ships, names) for names in ([0], [1], [0, 1])], [0, None, None])
        self.assertEqual(group_cost(harbour_with(ROW, last=4), THREE, [1]), 0)
        self.assertIsNone(group_cost(harbour_with(ROW, last=4), THREE, [1, 2]))

    def test_the_group_of_all(self):
        chance = random.Random(53)
        for _ in range(20):
            harbour, ships = console_case(chance)
            self.assertEqual(group_cost(harbour, ships, list(range(len(ships)))), least_cost(harbour, ships))


class PartingTest(unittest.TestCase):
    def test_bounds(self):
        bounds = [parting_bound(ROW, THREE, groups) for groups in PARTINGS[3]]
        self.assertEqual(bounds, [0, 3, 3, 3, 9])
        self.assertEqual(parting_bound(HARBOUR, SHIPS, [[0], [1]]), 10)
        self.assertEqual(parting_bound(HARBOUR, [ship_with(ready=2)], [[0]]), 4)

    def test_bounds_that_are_none(self):
        self.assertIsNone(parting_bound(ROW, [LIGHT, LONG], [[0], [1]]))
        self.assertIsNone(parting_bound(ROW, [LONG, LIGHT], [[0, 1]]))
        harbour = harbour_with(ROW, last=4)
        self.assertEqual([parting_bound(harbour, THREE, groups) for groups in PARTINGS[3]], [0, None, None, None, None])

    def test_the_closest(self):
        self.assertEqual(closest_parting(HARBOUR, SHIPS), (10, [[0], [1]]))
        ships = [ship_with(LIGHT, sea=7), ship_with(LIGHT, sea=5), ship_with(LIGHT, sea=6)]
        self.assertEqual(closest_parting(ROW, ships), (18, [[0, 2], [1]]))
        ships = [ship_with(LIGHT, sea=7), ship_with(LIGHT, sea=6), ship_with(LIGHT, sea=5)]
        self.assertEqual(closest_parting(ROW, ships), (18, [[0, 1], [2]]))
        ships = [ship_with(LIGHT, sea=5), ship_with(LIGHT, sea=6), ship_with(LIGHT, sea=7)]
        self.assertEqual(closest_parting(ROW, ships), (18, [[0], [1, 2]]))

    def test_a_single_ship(self):
        self.assertEqual(closest_parting(HARBOUR, [ship_with(ready=2)]), (4, [[0]]))
        self.assertEqual(closest_parting(ROW, [LIGHT]), (0, [[0]]))
        self.assertEqual(closest_parting(ROW, [LONG]), (None, [[0]]))

    def test_the_first_of_several(self):
        self.assertEqual(closest_parting(ROW, THREE), (3, [[0], [1, 2]]))
        self.assertEqual(closest_parting(harbour_with(ROW, berths=[9, 9]), [LIGHT] * 3), (0, [[0], [1], [2]]))
        # Not all of them in one group, though that is the greatest bound.
        self.assertEqual(closest_parting(ROW, [LIGHT, LIGHT]), (0, [[0], [1]]))

    def test_none_is_the_greatest(self):
        self.assertEqual(closest_parting(ROW, [LIGHT, LONG]), (None, [[0], [1]]))
        self.assertEqual(closest_parting(harbour_with(ROW, last=4), THREE), (None, [[0], [1, 2]]))
        self.assertEqual(closest_parting(harbour_with(ROW, last=4), [LIGHT, LIGHT]), (0, [[0], [1]]))
        late = ship_with(LIGHT, ready=3, draught=9)
        harbour = ([9, 9, 9, 9, 5, 9], [9], 3, 3, 5)
        # The ones who come late cannot be there both; who comes at once is in nobody's way.
        self.assertEqual(closest_parting(harbour, [late, LIGHT, late]), (None, [[0, 2], [1]]))
        self.assertEqual(closest_parting(harbour, [late, late, LIGHT]), (None, [[0, 1], [2]]))

    def test_against_all_plans(self):
        chance = random.Random(54)
        for _ in range(30):
            harbour, ships = console_case(chance)
            bounds = []
            for groups in PARTINGS[len(ships)]:
                costs = [least_of_all(harbour, [ships[name] for name in names]) for names in groups]
                bounds.append(None if None in costs else sum(costs))
                self.assertEqual(parting_bound(harbour, ships, groups), bounds[-1])
                self.assertEqual([group_cost(harbour, ships, names) for names in groups], costs)
            # No bound is more than that of all in one group, which is the least cost.
            self.assertEqual(max(bounds, key=number), bounds[-1])
            asked = list(zip(bounds, PARTINGS[len(ships)]))
            asked = asked[:-1] or asked
            best = max(number(bound) for bound, _ in asked)
            expected = [(bound, groups) for bound, groups in asked if number(bound) == best][0]
            self.assertEqual(closest_parting(harbour, ships), expected)
            if len(ships) == 3:
                self.assertGreaterEqual(best, number(bounds[0]))


class ExtraTest(unittest.TestCase):
    def test_extras(self):
        self.assertEqual([extra_of(HARBOUR, SHIPS, ship) for ship in (0, 1)], [0, 10])
        ships = [ship_with(LIGHT, sea=7), ship_with(LIGHT, sea=5), ship_with(LIGHT, sea=6)]
        # All together 18 + 30, without the first one 15, without the second one 18, without the third one 15.
        self.assertEqual([extra_of(ROW, ships, ship) for ship in (0, 1, 2)], [33, 30, 33])

    def test_a_single_ship(self):
        self.assertEqual(extra_of(HARBOUR, [ship_with(ready=2)], 0), 4)
        self.assertEqual(extra_of(ROW, [LIGHT], 0), 0)

    def test_no_plan(self):
        self.assertIsNone(extra_of(ROW, [LONG], 0))
        self.assertEqual([extra_of(ROW, [LIGHT, LONG], ship) for ship in (0, 1)], [None, None])
        self.assertIsNone(extra_of(harbour_with(ROW, last=4), [LIGHT, LIGHT], 1))

    def test_an_extra_is_what_she_adds_and_at_least_what_she_costs_alone(self):
        chance = random.Random(55)
        for _ in range(30):
            harbour, ships = console_case(chance)
            extras = [extra_of(harbour, ships, ship) for ship in range(len(ships))]
            if least_of_all(harbour, ships) is None:
                self.assertEqual(extras, [None] * len(ships))
                continue
            self.assertEqual(extras, added_by(harbour, ships))
            for ship, extra in enumerate(extras):
                self.assertGreaterEqual(extra, least_of_all(harbour, [ships[ship]]))
                rest = least_of_all(harbour, ships[:ship] + ships[ship + 1:])
                self.assertEqual(rest + extra, least_of_all(harbour, ships))


class DayTest(unittest.TestCase):
    def test_shortest_days(self):
        self.assertEqual(shortest_day(HARBOUR, SHIPS), 8)
        self.assertEqual([shortest_day(ROW, [LIGHT] * many) for many in (1, 2, 3)], [2, 5, 8])
        self.assertEqual(shortest_day(ROW, [ship_with(LIGHT, ready=18)]), 20)

    def test_the_whole_day_and_none(self):
        self.assertEqual(shortest_day(harbour_with(ROW, last=8), THREE), 8)
        self.assertIsNone(shortest_day(harbour_with(ROW, last=7), THREE))
        self.assertIsNone(shortest_day(ROW, [ship_with(LIGHT, ready=19)]))
        self.assertIsNone(shortest_day(ROW, [LONG]))
        self.assertIsNone(shortest_day(harbour_with(ROW, last=1), [LIGHT]))

    def test_one_day_that_pays(self):
        self.assertEqual(days_that_pay(HARBOUR, SHIPS), [(8, 10)])
        self.assertEqual(days_that_pay(harbour_with(last=8), SHIPS), [(8, 10)])
        self.assertEqual(days_that_pay(ROW, [LIGHT]), [(2, 0)])

    def test_several_days_that_pay(self):
        # If the long stay is first, the day is as long, but with an hour more the short one need not wait for it ..
        ships = [ship_with(LIGHT, stay=4, sea=1), ship_with(LIGHT, ready=1, sea=9)]
        self.assertEqual(days_that_pay(ROW, ships), [(8, 45), (9, 4)])
        self.assertEqual(days_that_pay(harbour_with(ROW, last=9), ships), [(8, 45), (9, 4)])
        # .. which is of no use if there is none.
        self.assertEqual(days_that_pay(harbour_with(ROW, last=8), ships), [(8, 45)])

    def test_a_last_hour_that_pays(self):
        # She can come in at 0, 1 and 6, and go out at 6 and 8: the later one costs more at sea.
        harbour = ([9, 9, 5, 5, 5, 5, 9, 5, 9], [9], 3, 3, 8)
        ship = (0, 1, 9, 1, 0, 1, 1)
        self.assertEqual(days_that_pay(harbour, [ship]), [(6, 4)])
        self.assertEqual(days_that_pay(harbour, [ship_with(ship, lie=2)]), [(6, 7), (8, 6)])
        self.assertEqual(days_that_pay(harbour, [ship_with(ship, lie=9)]), [(6, 28), (8, 6)])

    def test_none(self):
        self.assertEqual(days_that_pay(ROW, [LONG]), [])
        self.assertEqual(days_that_pay(harbour_with(ROW, last=7), THREE), [])
        self.assertEqual(days_that_pay(harbour_with(ROW, last=1), [LIGHT]), [])

    def test_against_all_plans(self):
        chance = random.Random(56)
        for _ in range(30):
            harbour, ships = console_case(chance)
            days = range(1, harbour[4] + 1)
            expected = model_steps(lambda day: least_of_all(harbour_with(harbour, last=day), ships), days)
            self.assertEqual(days_that_pay(harbour, ships), expected)
            self.assertEqual(shortest_day(harbour, ships), expected[0][0] if expected else None)
            costs = [number(least_cost(harbour_with(harbour, last=day), ships)) for day in days]
            self.assertEqual(costs, sorted(costs, reverse=True))


if __name__ == "__main__":
    unittest.main()
