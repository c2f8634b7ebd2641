"""Points 11 and 12: a ship alone, and the least cost of several."""

import random
import unittest

from tests.helper import harbour_with, model_cost, model_plans, ship_with, some_harbour, some_ship, tuples_alone
from tidewaits.harbours import is_plan
from tidewaits.tides import cheapest, cost_alone, soonest

# The ship below can move in the hours 0, 4, 5, 6, 10, 11, 12, 16, 17 and 18.
TIDAL = ([9, 0, 0, 0, 9, 9], [3, 6], 2, 1, 20)
SHIP = (0, 5, 9, 1, 2, 3, 1)


class AloneTest(unittest.TestCase):
    def check(self, harbour, ship, first, best, cost):
        self.assertEqual(soonest(harbour, ship), first)
        self.assertEqual(cheapest(harbour, ship), best)
        self.assertEqual(cost_alone(harbour, ship), cost)

    def check_none(self, harbour, ship):
        self.check(harbour, ship, None, None, None)

    def test_the_soonest_plan_is_the_cheapest(self):
        self.check(TIDAL, SHIP, (0, 1, 4), (0, 1, 4), 2)
        self.check(TIDAL, ship_with(SHIP, ready=1), (4, 1, 6), (4, 1, 6), 9)
        self.check(TIDAL, ship_with(SHIP, ready=5), (5, 1, 10), (5, 1, 10), 3)

    def test_a_cheapest_plan_that_is_not_the_soonest(self):
        self.check(TIDAL, ship_with(SHIP, ready=5, sea=1, lie=9), (5, 1, 10), (10, 1, 12), 5)
        self.check(TIDAL, ship_with(SHIP, ready=0, sea=1, lie=9), (0, 1, 4), (4, 1, 6), 4)
        self.check(TIDAL, ship_with(SHIP, ready=0, sea=0, lie=1), (0, 1, 4), (4, 1, 6), 0)

    def test_lie_greater_than_sea_but_the_soonest_is_the_cheapest(self):
        self.check(TIDAL, ship_with(SHIP, ready=0, sea=2, lie=3), (0, 1, 4), (0, 1, 4), 6)

    def test_of_one_cost_the_least_hours(self):
        self.check(TIDAL, ship_with(SHIP, sea=0, lie=0), (0, 1, 4), (0, 1, 4), 0)
        self.check(TIDAL, ship_with(SHIP, sea=5, lie=0), (0, 1, 4), (0, 1, 4), 0)
        self.check(TIDAL, ship_with(SHIP, ready=1, sea=0, lie=0), (4, 1, 6), (4, 1, 6), 0)
        self.check(TIDAL, ship_with(SHIP, ready=0, sea=1, lie=2), (0, 1, 4), (0, 1, 4), 4)
        self.check(TIDAL, ship_with(SHIP, ready=5, sea=2, lie=2), (5, 1, 10), (5, 1, 10), 6)
        self.check(TIDAL, ship_with(SHIP, ready=5, sea=1, lie=2), (5, 1, 10), (6, 1, 10), 5)

    def test_the_first_berth_that_is_long_enough(self):
        for length, berth in ((1, 0), (3, 0), (4, 1), (6, 1)):
            ship = ship_with(SHIP, length=length)
            self.check(harbour_with(TIDAL, berths=[3, 6]), ship, (0, berth, 4), (0, berth, 4), 2)
        self.check(harbour_with(TIDAL, berths=[6, 3]), SHIP, (0, 0, 4), (0, 0, 4), 2)
        self.check(harbour_with(TIDAL, berths=[6, 5]), SHIP, (0, 0, 4), (0, 0, 4), 2)
        self.check(harbour_with(TIDAL, berths=[9, 9]), ship_with(SHIP, length=9), (0, 0, 4), (0, 0, 4), 2)

    def test_no_plan_for_want_of_tugs(self):
        self.check_none(TIDAL, ship_with(SHIP, tugs=3))
        self.check(harbour_with(TIDAL, tugs=3), ship_with(SHIP, tugs=3), (0, 1, 4), (0, 1, 4), 2)
        self.check_none(harbour_with(TIDAL, tugs=0), ship_with(SHIP, tugs=1))
        self.check(harbour_with(TIDAL, tugs=0), ship_with(SHIP, tugs=0), (0, 1, 4), (0, 1, 4), 2)

    def test_no_plan_for_want_of_a_berth(self):
        self.check_none(TIDAL, ship_with(SHIP, length=7))
        self.check_none(harbour_with(TIDAL, berths=[4]), SHIP)
        self.check_none(harbour_with(TIDAL, berths=[4, 4]), SHIP)
        self.check(harbour_with(TIDAL, berths=[5]), SHIP, (0, 0, 4), (0, 0, 4), 2)

    def test_no_plan_for_want_of_depth(self):
        self.check_none(TIDAL, ship_with(SHIP, draught=10))
        self.check_none(harbour_with(TIDAL, depths=[8]), SHIP)

    def test_no_plan_for_want_of_an_hour_to_come_in(self):
        self.check_none(harbour_with(TIDAL, last=3), ship_with(SHIP, ready=1))
        self.check_none(harbour_with(TIDAL, last=5), ship_with(SHIP, ready=6))
        self.check_none(harbour_with(TIDAL, last=1), ship_with(SHIP, ready=20))

    def test_no_plan_for_want_of_an_hour_to_go_out(self):
        self.check_none(harbour_with(TIDAL, last=3), SHIP)
        self.check(harbour_with(TIDAL, last=4), SHIP, (0, 1, 4), (0, 1, 4), 2)
        self.check_none(harbour_with(TIDAL, last=9), ship_with(SHIP, ready=5))
        self.check(harbour_with(TIDAL, last=10), ship_with(SHIP, ready=5), (5, 1, 10), (5, 1, 10), 3)
        self.check_none(harbour_with(TIDAL, depths=[9], last=5), ship_with(SHIP, ready=4))
        self.check(harbour_with(TIDAL, depths=[9], last=6), ship_with(SHIP, ready=4), (4, 1, 6), (4, 1, 6), 0)

    def test_a_cheaper_plan_behind_the_last_hour_does_not_count(self):
        ship = ship_with(SHIP, sea=0, lie=1)
        self.check(harbour_with(TIDAL, last=5), ship, (0, 1, 4), (0, 1, 4), 2)
        self.check(harbour_with(TIDAL, last=6), ship, (0, 1, 4), (4, 1, 6), 0)

    def test_the_stay(self):
        still = harbour_with(TIDAL, depths=[9])
        for stay in (1, 2, 3, 4):
            self.check(still, ship_with(SHIP, ready=3, stay=stay), (3, 1, 4 + stay), (3, 1, 4 + stay), 0)

    def test_against_all_plans_of_the_ship(self):
        chance = random.Random(11)
        found = {"none": 0, "same": 0, "other": 0}
        for _ in range(1500):
            harbour = some_harbour(chance, last=chance.randint(1, 16))
            harbour = harbour_with(harbour, tugs=harbour[2] // 2 + 1)
            ship = ship_with(some_ship(chance, latest_ready=10), draught=chance.randint(0, max(harbour[0])))
            plans = tuples_alone(harbour, ship)
            if not plans:
                self.check_none(harbour, ship)
                found["none"] += 1
                continue
            first = min(plans, key=lambda row: (row[0], row[2], row[1]))
            best = min(plans, key=lambda row: (model_cost([ship], [row]), row[0], row[2], row[1]))
            self.check(harbour, ship, first, best, model_cost([ship], [best]))
            self.assertTrue(is_plan(harbour, [ship], [first]) and is_plan(harbour, [ship], [best]))
            self.assertEqual(first[0], min(came for came, berth, left in plans))
            self.assertEqual(first[2], min(left for came, berth, left in plans))
            found["same" if first == best else "other"] += 1
        self.assertGreater(min(found.values()), 20)


class SeveralTest(unittest.TestCase):
    def test_the_least_cost_of_several_ships(self):
        chance = random.Random(12)
        found = {"none alone": 0, "none": 0, "equal": 0, "greater": 0}
        for _ in range(250):
            harbour = (
                [chance.randint(2, 9) for _ in range(chance.randint(1, 5))],
                [chance.randint(4, 9) for _ in range(chance.randint(1, 2))],
                chance.randint(1, 3), chance.randint(1, 2), chance.randint(5, 8),
            )
            ships = [some_ship(chance, latest_ready=3) for _ in range(2)]
            ships = [ship_with(ship, draught=ship[2] % 8, length=ship[1] % 6 + 1) for ship in ships]
            alone = [cost_alone(harbour, ship) for ship in ships]
            costs = [model_cost(ships, plan) for plan in model_plans(harbour, ships)]
            if None in alone:
                self.assertEqual(costs, [])
                found["none alone"] += 1
            elif not costs:
                found["none"] += 1
            else:
                self.assertGreaterEqual(min(costs), sum(alone))
                found["equal" if min(costs) == sum(alone) else "greater"] += 1
        self.assertGreater(min(found.values()), 5)


if __name__ == "__main__":
    unittest.main()
