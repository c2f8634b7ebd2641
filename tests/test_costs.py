"""Point 4: waits, the cost of a plan, and what each hour costs."""

import random
import unittest

from tests.helper import PLAN, SHIPS, model_cost, model_hour_cost, ship_with, some_ship
from tidewaits.harbours import cost_of, hour_costs, waits

SHIP = (2, 1, 0, 2, 0, 3, 5)


class CostsTest(unittest.TestCase):
    def test_no_wait(self):
        self.assertEqual(waits([SHIP], [(2, 0, 5)]), [(0, 0)])
        self.assertEqual(cost_of([SHIP], [(2, 0, 5)]), 0)
        self.assertEqual(hour_costs([SHIP], [(2, 0, 5)]), [0] * 6)

    def test_wait_at_sea(self):
        self.assertEqual(waits([SHIP], [(6, 0, 9)]), [(4, 0)])
        self.assertEqual(cost_of([SHIP], [(6, 0, 9)]), 12)
        self.assertEqual(hour_costs([SHIP], [(6, 0, 9)]), [0, 0, 3, 3, 3, 3, 0, 0, 0, 0])

    def test_wait_at_the_berth(self):
        self.assertEqual(waits([SHIP], [(2, 0, 8)]), [(0, 3)])
        self.assertEqual(cost_of([SHIP], [(2, 0, 8)]), 15)
        self.assertEqual(hour_costs([SHIP], [(2, 0, 8)]), [0, 0, 0, 0, 0, 5, 5, 5, 0])

    def test_both_waits(self):
        self.assertEqual(waits([SHIP], [(3, 1, 8)]), [(1, 2)])
        self.assertEqual(cost_of([SHIP], [(3, 1, 8)]), 13)
        self.assertEqual(hour_costs([SHIP], [(3, 1, 8)]), [0, 0, 3, 0, 0, 0, 5, 5, 0])

    def test_the_stay_counts(self):
        for stay in (1, 2, 3, 4):
            ship = ship_with(SHIP, stay=stay)
            self.assertEqual(waits([ship], [(2, 0, 9)]), [(0, 6 - stay)])
            self.assertEqual(cost_of([ship], [(2, 0, 9)]), 5 * (6 - stay))
            self.assertEqual(hour_costs([ship], [(2, 0, 9)]), [0] * (3 + stay) + [5] * (6 - stay) + [0])

    def test_ready_counts(self):
        for ready in range(5):
            ship = ship_with(SHIP, ready=ready)
            self.assertEqual(waits([ship], [(5, 0, 8)]), [(5 - ready, 0)])
            self.assertEqual(hour_costs([ship], [(5, 0, 8)]), [0] * ready + [3] * (5 - ready) + [0] * 4)

    def test_hours_that_cost_nothing(self):
        self.assertEqual(cost_of([ship_with(SHIP, sea=0, lie=0)], [(9, 0, 19)]), 0)
        self.assertEqual(cost_of([ship_with(SHIP, sea=0)], [(9, 0, 13)]), 5)
        self.assertEqual(cost_of([ship_with(SHIP, lie=0)], [(4, 0, 19)]), 6)

    def test_several_ships(self):
        self.assertEqual(waits(SHIPS, PLAN), [(0, 0), (3, 2)])
        self.assertEqual(cost_of(SHIPS, PLAN), 10)
        ships = [SHIP, ship_with(SHIP, ready=0, sea=7), ship_with(SHIP, lie=9)]
        plan = [(4, 0, 9), (2, 1, 6), (3, 0, 10)]
        self.assertEqual(waits(ships, plan), [(2, 2), (2, 1), (1, 4)])
        self.assertEqual(cost_of(ships, plan), 6 + 10 + 14 + 5 + 3 + 36)
        self.assertEqual(hour_costs(ships, plan), [7, 7, 6, 3, 0, 5, 9, 14, 14, 9, 0])
        self.assertEqual(sum(hour_costs(ships, plan)), 74)

    def test_the_last_hour_is_that_of_the_last_ship(self):
        ships = [SHIP, SHIP]
        self.assertEqual(len(hour_costs(ships, [(2, 0, 12), (2, 1, 5)])), 13)
        self.assertEqual(len(hour_costs(ships, [(2, 0, 5), (2, 1, 12)])), 13)

    def test_kinds_of_values(self):
        self.assertIs(type(waits(SHIPS, PLAN)), list)
        self.assertIs(type(waits(SHIPS, PLAN)[0]), tuple)
        self.assertIs(type(hour_costs(SHIPS, PLAN)), list)
        self.assertIs(type(cost_of(SHIPS, PLAN)), int)

    def test_hours_add_up_to_the_cost(self):
        chance = random.Random(4)
        for _ in range(2000):
            ships = [some_ship(chance) for _ in range(chance.randint(1, 3))]
            plan = []
            for ready, length, draught, stay, tugs, sea, lie in ships:
                came = ready + chance.randint(0, 8)
                plan.append((came, chance.randint(0, 1), came + stay + 1 + chance.randint(0, 8)))
            costs = hour_costs(ships, plan)
            end = max(left for came, berth, left in plan)
            self.assertEqual(costs, [model_hour_cost(ships, plan, hour) for hour in range(end + 1)])
            self.assertEqual(sum(costs), cost_of(ships, plan))
            self.assertEqual(cost_of(ships, plan), model_cost(ships, plan))


if __name__ == "__main__":
    unittest.main()
