"""The greatest harbours and fleets that the points allow: three ships, two berths, forty hours, a turn of twelve."""

import itertools
import random
import unittest

from tests.helper import share_of
from tidewaits.best import (
    best_plan, count_best, count_plans, is_table, least_cost, shows_best, shows_none, table_of,
)
from tidewaits.chances import check_chances, is_mean_lower, is_mean_upper, mean_cost, mean_of, mean_table, spans_of
from tidewaits.harbours import check_harbour, check_ships, cost_of, is_plan
from tidewaits.late import (
    check_spans, comings_of, cost_by, is_sure_lower, is_sure_upper, ships_at, sure_cost, sure_rule, sure_table,
    worst_coming,
)
from tidewaits.rules import best_orders, order_of, parting, plan_by, price_of
from tidewaits.tides import cost_alone, turn_of

# Each hour but every twelfth is deep enough for all.
OPEN = ([40] * 11 + [39], [9, 9], 6, 3, 40)
SHIPS = [(0, 9, 40, 4, 2, 9, 3), (0, 9, 39, 4, 2, 3, 9), (0, 5, 0, 4, 2, 5, 5)]
# Two high waters in a turn, of which one is higher.
TIDES = ([12, 16, 19, 20, 18, 15, 11, 14, 17, 17, 15, 13], [9, 7], 4, 2, 40)
FLEET = [(17, 8, 16, 4, 3, 9, 2), (17, 7, 17, 3, 2, 7, 8), (16, 6, 14, 4, 1, 5, 9)]
CHANCES = [[(1, 4), (1, 3), (1, 5), (13, 60)], [(97, 100), (1, 100), (0, 1), (1, 50)], [(1, 97), (0, 1), (96, 97)]]


class GreatestTest(unittest.TestCase):
    def test_they_are_within_the_bounds(self):
        for harbour, ships in ((OPEN, SHIPS), (TIDES, FLEET)):
            check_harbour(harbour)
            check_ships(ships)
            check_spans(ships, [3, 3, 3])
            check_chances(ships, CHANCES)
            self.assertEqual((turn_of(harbour), harbour[4]), (12, 40))

    def check_best(self, harbour, ships, latest=None):
        plan = best_plan(harbour, ships, latest=latest)
        table = table_of(harbour, ships, latest=latest)
        self.assertTrue(is_plan(harbour, ships, plan))
        self.assertIs(shows_best(harbour, ships, plan, table, latest=latest), True)
        self.assertEqual(cost_of(ships, plan), least_cost(harbour, ships, latest=latest))
        many, best = count_plans(harbour, ships, latest=latest), count_best(harbour, ships, latest=latest)
        self.assertTrue(1 <= best < many)
        return plan

    def test_best_plans(self):
        plan = self.check_best(OPEN, SHIPS)
        # Two come in at once; the third, for whom waiting costs least, has a berth when it is free again.
        self.assertEqual((plan, cost_of(SHIPS, plan)), ([(0, 0, 5), (6, 0, 11), (0, 1, 5)], 18))
        plan = self.check_best(TIDES, FLEET)
        alone = sum(cost_alone(TIDES, ship) for ship in FLEET)
        self.assertGreaterEqual(cost_of(FLEET, plan), alone)

    def test_best_plans_with_promises(self):
        plan = self.check_best(OPEN, SHIPS, [None, 5, 11])
        self.assertEqual((plan, cost_of(SHIPS, plan)), ([(0, 0, 5), (0, 1, 5), (6, 0, 11)], 30))
        none = table_of(OPEN, SHIPS, latest=[5, 5, 10])
        self.assertIs(shows_none(OPEN, SHIPS, none, latest=[5, 5, 10]), True)
        self.assertIsNone(least_cost(OPEN, SHIPS, latest=[5, 5, 10]))
        self.assertEqual(count_plans(OPEN, SHIPS, latest=[5, 5, 10]), 0)

    def test_the_number_of_plans_of_ships_alike_but_for_nothing(self):
        # One berth: of three ships in a row each has her in and out among 41 hours, at least five apart.
        harbour, ship = ([9], [9], 6, 3, 40), (0, 9, 9, 4, 0, 0, 0)
        for many in (1, 2, 3):
            rows = len(list(itertools.combinations(range(41 - 4 * many), 2 * many)))
            orders = [1, 1, 2, 6][many]
            self.assertEqual(count_plans(harbour, [ship] * many), rows * orders)
            self.assertEqual(count_best(harbour, [ship] * many), rows * orders)

    def test_a_table_with_one_bound_too_great(self):
        table = table_of(TIDES, FLEET)
        self.assertIs(is_table(TIDES, FLEET, table), True)
        chance = random.Random(40)
        for _ in range(10):
            at = chance.randrange(len(table))
            hour, places, bound = table[at]
            if bound is not None:
                wrong = table[:at] + [(hour, places, bound + 1)] + table[at + 1:]
                self.assertIs(is_table(TIDES, FLEET, wrong), False)

    def test_rules(self):
        for harbour, ships in ((OPEN, SHIPS), (TIDES, FLEET)):
            least = least_cost(harbour, ships)
            costs = {}
            for order in itertools.permutations(range(3)):
                plan = plan_by(harbour, ships, list(order))
                self.assertTrue(is_plan(harbour, ships, plan))
                costs[order] = cost_of(ships, plan)
                self.assertEqual(price_of(harbour, ships, list(order)), costs[order] - least)
                self.assertEqual(parting(harbour, ships, plan) is None, costs[order] == least)
            best = [list(order) for order in sorted(costs) if costs[order] == min(costs.values())]
            self.assertEqual(best_orders(harbour, ships), best)
            for rule in ("first", "short", "dear", "shallow"):
                self.assertIn(tuple(order_of(ships, rule)), costs)

    def check_sure(self, harbour, ships):
        spans = [3, 3, 3]
        cost, table, rule = [sure(harbour, ships, spans) for sure in (sure_cost, sure_table, sure_rule)]
        self.assertIs(is_sure_upper(harbour, ships, spans, table), True)
        self.assertIs(is_sure_lower(harbour, ships, spans, table), True)
        self.assertEqual([state for state, _ in rule], [state for state, _ in table])
        self.assertEqual(max(number for (hour, _), number in table if hour == 0), cost)
        costs = [cost_by(harbour, ships, rule, coming) for coming in comings_of(ships, spans)[::7]]
        self.assertLessEqual(max(costs), cost)
        worst = worst_coming(harbour, ships, spans, rule)
        self.assertEqual(cost_by(harbour, ships, rule, worst), cost)
        return cost

    def test_sure_costs(self):
        self.assertGreaterEqual(self.check_sure(OPEN, SHIPS), 18)
        cost = self.check_sure(TIDES, FLEET)
        for coming in comings_of(FLEET, [3, 3, 3])[::9]:
            self.assertGreaterEqual(cost, least_cost(TIDES, ships_at(FLEET, coming)))

    def test_spans_of_0(self):
        for harbour, ships in ((OPEN, SHIPS), (TIDES, FLEET)):
            self.assertEqual(sure_cost(harbour, ships, [0, 0, 0]), least_cost(harbour, ships))
            chances = [[(1, 1)], [(1, 1)], [(1, 1)]]
            self.assertEqual(mean_cost(harbour, ships, chances), share_of(least_cost(harbour, ships)))

    def check_mean(self, harbour, ships):
        cost, table = mean_cost(harbour, ships, CHANCES), mean_table(harbour, ships, CHANCES)
        self.assertIs(is_mean_upper(harbour, ships, CHANCES, table), True)
        self.assertIs(is_mean_lower(harbour, ships, CHANCES, table), True)
        spans = spans_of(CHANCES)
        sure = sure_cost(harbour, ships, spans)
        self.assertLessEqual(cost[0], sure * cost[1])
        mean = mean_of(harbour, ships, sure_rule(harbour, ships, spans), CHANCES)
        self.assertLessEqual(cost[0] * mean[1], mean[0] * cost[1])
        self.assertLessEqual(mean[0], sure * mean[1])

    def test_mean_costs(self):
        self.check_mean(OPEN, SHIPS)
        self.check_mean(TIDES, FLEET)


if __name__ == "__main__":
    unittest.main()
