"""The greatest harbours and fleets that the points allow: three ships, two berths, forty hours, a turn of twelve."""

import itertools
import random
import unittest

from tests.consoles import shown
from tests.helper import share_of
from tidewaits.best import (
    best_plan, count_best, count_plans, is_table, least_cost, shows_best, shows_none, table_of,
)
from tidewaits.bounds import closest_parting, days_that_pay, extra_of, group_cost, shortest_day
from tidewaits.chances import check_chances, is_mean_lower, is_mean_upper, mean_cost, mean_of, mean_table, spans_of
from tidewaits.console import Console, replay
from tidewaits.errors import Clash
from tidewaits.harbours import check_harbour, check_ships, cost_of, is_plan
from tidewaits.late import (
    check_spans, comings_of, cost_by, is_sure_lower, is_sure_upper, ships_at, sure_cost, sure_rule, sure_table,
    worst_coming,
)
from tidewaits.needs import (
    added_by, depth_steps, greatest_draught, least_depth, least_pairs, least_pilots, least_tugs, pilot_steps, spared_by,
    tug_steps,
)
from tidewaits.promises import best_keeping, can_keep, clash_of, clashes, in_turn, latest_of, soonest_hour
from tidewaits.rules import best_orders, order_of, parting, plan_by, price_of
from tidewaits.tides import cost_alone, turn_of

# Each hour but every twelfth is deep enough for all.
OPEN = ([40] * 11 + [39], [9, 9], 6, 3, 40)
SHIPS = [(0, 9, 40, 4, 2, 9, 3), (0, 9, 39, 4, 2, 3, 9), (0, 5, 0, 4, 2, 5, 5)]
# Two high waters in a turn, of which one is higher.
TIDES = ([12, 16, 19, 20, 18, 15, 11, 14, 17, 17, 15, 13], [9, 7], 4, 2, 40)
FLEET = [(17, 8, 16, 4, 3, 9, 2), (17, 7, 17, 3, 2, 7, 8), (16, 6, 14, 4, 1, 5, 9)]
CHANCES = [[(1, 4), (1, 3), (1, 5), (13, 60)], [(97, 100), (1, 100), (0, 1), (1, 50)], [(1, 97), (0, 1), (96, 97)]]


class GreatestTest(unittest.TestCase):
    def test_they_are_within_the_bounds(self):
        for harbour, ships in ((OPEN, SHIPS), (TIDES, FLEET)):
            check_harbour(harbour)
            check_ships(ships)
            check_spans(ships, [3, 3, 3])
            check_chances(ships, CHANCES)
            self.assertEqual((turn_of(harbour), harbour[4]), (12, 40))

    def check_best(self, harbour, ships, latest=None):
        plan = best_plan(harbour, ships, latest=latest)
        table = table_of(harbour, ships, latest=latest)
        self.assertTrue(is_plan(harbour, ships, plan))
        self.assertIs(shows_best(harbour, ships, plan, table, latest=latest), True)
        self.assertEqual(cost_of(ships, plan), least_cost(harbour, ships, latest=latest))
        many, best = count_plans(harbour, ships, latest=latest), count_best(harbour, ships, latest=latest)
        self.assertTrue(1 <= best < many)
        return plan

    def test_best_plans(self):
        plan = self.check_best(OPEN, SHIPS)
        # Two come in at once; the third, for whom waiting costs least, has a berth when it is free again.
        self.assertEqual((plan, cost_of(SHIPS, plan)), ([(0, 0, 5), (6, 0, 11), (0, 1, 5)], 18))
        plan = self.check_best(TIDES, FLEET)
        alone = sum(cost_alone(TIDES, ship) for ship in FLEET)
        self.assertGreaterEqual(cost_of(FLEET, plan), alone)

    def test_best_plans_with_promises(self):
        plan = self.check_best(OPEN, SHIPS, [None, 5, 11])
        self.assertEqual((plan, cost_of(SHIPS, plan)), ([(0, 0, 5), (0, 1, 5), (6, 0, 11)], 30))
        none = table_of(OPEN, SHIPS, latest=[5, 5, 10])
        self.assertIs(shows_none(OPEN, SHIPS, none, latest=[5, 5, 10]), True)
        self.assertIsNone(least_cost(OPEN, SHIPS, latest=[5, 5, 10]))
        self.assertEqual(count_plans(OPEN, SHIPS, latest=[5, 5, 10]), 0)

    def test_the_number_of_plans_of_ships_alike_but_for_nothing(self):
        # One berth: of three ships in a row each has her in and out among 41 hours, at least five apart.
        harbour, ship = ([9], [9], 6, 3, 40), (0, 9, 9, 4, 0, 0, 0)
        for many in (1, 2, 3):
            rows = len(list(itertools.combinations(range(41 - 4 * many), 2 * many)))
            orders = [1, 1, 2, 6][many]
            self.assertEqual(count_plans(harbour, [ship] * many), rows * orders)
            self.assertEqual(count_best(harbour, [ship] * many), rows * orders)

    def test_a_table_with_one_bound_too_great(self):
        table = table_of(TIDES, FLEET)
        self.assertIs(is_table(TIDES, FLEET, table), True)
        chance = random.Random(40)
        for _ in range(10):
            at = chance.randrange(len(table))
            hour, places, bound = table[at]
            if bound is not None:
                wrong = table[:at] + [(hour, places, bound + 1)] + table[at + 1:]
                self.assertIs(is_table(TIDES, FLEET, wrong), False)

    def test_rules(self):
        for harbour, ships in ((OPEN, SHIPS), (TIDES, FLEET)):
            least = least_cost(harbour, ships)
            costs = {}
            for order in itertools.permutations(range(3)):
                plan = plan_by(harbour, ships, list(order))
                self.assertTrue(is_plan(harbour, ships, plan))
                costs[order] = cost_of(ships, plan)
                self.assertEqual(price_of(harbour, ships, list(order)), costs[order] - least)
                self.assertEqual(parting(harbour, ships, plan) is None, costs[order] == least)
            best = [list(order) for order in sorted(costs) if costs[order] == min(costs.values())]
            self.assertEqual(best_orders(harbour, ships), best)
            for rule in ("first", "short", "dear", "shallow"):
                self.assertIn(tuple(order_of(ships, rule)), costs)

    def check_sure(self, harbour, ships):
        spans = [3, 3, 3]
        cost, table, rule = [sure(harbour, ships, spans) for sure in (sure_cost, sure_table, sure_rule)]
        self.assertIs(is_sure_upper(harbour, ships, spans, table), True)
        self.assertIs(is_sure_lower(harbour, ships, spans, table), True)
        self.assertEqual([state for state, _ in rule], [state for state, _ in table])
        self.assertEqual(max(number for (hour, _), number in table if hour == 0), cost)
        costs = [cost_by(harbour, ships, rule, coming) for coming in comings_of(ships, spans)[::7]]
        self.assertLessEqual(max(costs), cost)
        worst = worst_coming(harbour, ships, spans, rule)
        self.assertEqual(cost_by(harbour, ships, rule, worst), cost)
        return cost

    def test_sure_costs(self):
        self.assertGreaterEqual(self.check_sure(OPEN, SHIPS), 18)
        cost = self.check_sure(TIDES, FLEET)
        for coming in comings_of(FLEET, [3, 3, 3])[::9]:
            self.assertGreaterEqual(cost, least_cost(TIDES, ships_at(FLEET, coming)))

    def test_spans_of_0(self):
        for harbour, ships in ((OPEN, SHIPS), (TIDES, FLEET)):
            self.assertEqual(sure_cost(harbour, ships, [0, 0, 0]), least_cost(harbour, ships))
            chances = [[(1, 1)], [(1, 1)], [(1, 1)]]
            self.assertEqual(mean_cost(harbour, ships, chances), share_of(least_cost(harbour, ships)))

    def check_mean(self, harbour, ships):
        cost, table = mean_cost(harbour, ships, CHANCES), mean_table(harbour, ships, CHANCES)
        self.assertIs(is_mean_upper(harbour, ships, CHANCES, table), True)
        self.assertIs(is_mean_lower(harbour, ships, CHANCES, table), True)
        spans = spans_of(CHANCES)
        sure = sure_cost(harbour, ships, spans)
        self.assertLessEqual(cost[0], sure * cost[1])
        mean = mean_of(harbour, ships, sure_rule(harbour, ships, spans), CHANCES)
        self.assertLessEqual(cost[0] * mean[1], mean[0] * cost[1])
        self.assertLessEqual(mean[0], sure * mean[1])

    def test_mean_costs(self):
        self.check_mean(OPEN, SHIPS)
        self.check_mean(TIDES, FLEET)

    def test_tugs_pilots_and_depth(self):
        self.assertEqual((tug_steps(OPEN, SHIPS), pilot_steps(OPEN, SHIPS)), ([(2, 26), (4, 18)], [(1, 26), (2, 18)]))
        self.assertEqual((least_tugs(OPEN, SHIPS, cost=25), least_pilots(OPEN, SHIPS, cost=26)), (4, 1))
        self.assertEqual(least_pairs(OPEN, SHIPS, cost=18), [(4, 2)])
        self.assertEqual(depth_steps(TIDES, FLEET), [(0, 104), (1, 63), (2, 41), (3, 37)])
        self.assertEqual([least_depth(TIDES, FLEET, cost=cost) for cost in (36, 37, 41, 62, 104)], [None, 3, 2, 2, 0])
        self.assertEqual(least_pairs(TIDES, FLEET, cost=120), [(3, 1)])
        self.assertEqual([greatest_draught(TIDES, FLEET, 2, cost=cost) for cost in (103, 104)], [None, 17])
        costs = [least_cost(TIDES, FLEET[:2] + [(16, 6, draught, 4, 1, 5, 9)]) for draught in (0, 14, 17, 18)]
        self.assertTrue(costs[:3] == [104, 104, 104] and costs[3] > 104)

    def test_a_tide_that_gives_a_step_for_each_foot(self):
        # The depth rises to 22 by two feet in an hour; the ships need 40, 39 and 38.
        harbour = (list(range(0, 24, 2)), [9, 9], 6, 3, 40)
        ships = [(0, 9, 39, 4, 3, 9, 1), (0, 9, 40, 4, 2, 9, 2), (0, 9, 38, 4, 1, 8, 3)]
        steps = depth_steps(harbour, ships)
        self.assertGreater(len(steps), 12)
        for (more, cost), (further, less) in zip(steps, steps[1:]):
            self.assertTrue(more < further and cost > less)
        more, cost = steps[5]
        deep = ([depth + more for depth in harbour[0]], *harbour[1:])
        self.assertEqual((least_cost(deep, ships), least_depth(harbour, ships, cost=cost)), (cost, more))
        shallow = ([depth - 1 for depth in deep[0]], *harbour[1:])
        self.assertEqual(least_cost(shallow, ships), steps[4][1])

    def test_ships_and_berths(self):
        for harbour, ships in ((OPEN, SHIPS), (TIDES, FLEET)):
            least = least_cost(harbour, ships)
            added = added_by(harbour, ships)
            self.assertEqual(added, [extra_of(harbour, ships, ship) for ship in range(3)])
            for ship, more in enumerate(added):
                self.assertGreaterEqual(more, group_cost(harbour, ships, [ship]))
                self.assertEqual(least - more, group_cost(harbour, ships, [name for name in range(3) if name != ship]))
            bound, groups = closest_parting(harbour, ships)
            self.assertLessEqual(bound, least)
            self.assertEqual(sum(group_cost(harbour, ships, names) for names in groups), bound)
        self.assertEqual((spared_by(OPEN, SHIPS), spared_by(TIDES, FLEET)), ([48, 48], [None, 85]))

    def test_days(self):
        self.assertEqual(days_that_pay(OPEN, SHIPS), [(11, 18)])
        self.assertEqual(days_that_pay(TIDES, FLEET), [(31, 113), (32, 104)])
        for harbour, ships, last in ((OPEN, SHIPS, 11), (TIDES, FLEET, 31)):
            self.assertEqual(shortest_day(harbour, ships), last)
            self.assertIsNone(least_cost((*harbour[:4], last - 1), ships))

    def test_promised_hours(self):
        self.assertEqual(clashes(TIDES, FLEET, [40, 40, 40]), [])
        self.assertEqual(clashes(OPEN, SHIPS, [5, 5, 10]), [[0, 1, 2]])
        self.assertEqual(clash_of(OPEN, SHIPS, [5, 5, 10], [0, 1], 2), [0, 1])
        self.assertEqual(in_turn(TIDES, FLEET, [40, 40, 39], [2, 1, 0]), ([0, 1, 2], []))
        cost, plan = best_keeping(OPEN, SHIPS, [100, 5, 11], [1, 2])
        self.assertEqual((cost, cost_of(SHIPS, plan)), (30, 30))
        self.assertEqual(soonest_hour(OPEN, SHIPS, [5, 5, 0], [0, 1], 2), 11)
        hour = soonest_hour(TIDES, FLEET, [40, 100, 100], [0], 1)
        self.assertIs(can_keep(TIDES, FLEET, [40, hour, 0], [0, 1]), True)
        self.assertIs(can_keep(TIDES, FLEET, [40, hour - 1, 0], [0, 1]), False)
        self.assertEqual(latest_of([40, hour, 0], [0, 1]), [40, hour, None])

    def test_consoles(self):
        console = Console(OPEN, SHIPS[:2])
        self.assertEqual((console.cost(), console.ship(SHIPS[2]), console.cost()), (0, 18, 18))
        self.assertEqual((console.promise(1, 10), console.promise(2, 11)), (12, 0))
        with self.assertRaises(Clash) as caught:
            console.promise(0, 4)
        self.assertEqual(caught.exception.ships, [])
        self.assertEqual(console.go(3), [(0, 0, 0), (0, 1, 1)])
        self.assertEqual(console.what_if([("undo",), ("undo",), ("undo",)]), 18)
        self.assertEqual((console.delay(2, 20), console.promises()), ([2], [None, 10, None]))
        self.assertEqual((console.cost(), console.plan()), (0, [(0, 0, 5), (0, 1, 5), (20, 0, 25)]))
        self.assertEqual(len(console.go(41)), 4)
        other = replay(OPEN, SHIPS[:2], console.journal())
        self.assertEqual(shown(other), shown(console))


if __name__ == "__main__":
    unittest.main()
