"""Points 24 to 28: orders, the plans by them and their prices, the best orders, and the parting of a plan."""

import itertools
import random
import unittest

from tests.helper import (
    HARBOUR, PLAN, SHIPS, harbour_with, model_cost, model_depth, model_plans, ship_with, small_case, some_harbour,
    some_ship,
)
from tidewaits.harbours import cost_of, is_plan
from tidewaits.rules import best_orders, order_of, parting, plan_by, price_of
from tidewaits.tides import soonest

# Always deep enough; berth 1 is the short one.
WIDE = ([9], [7, 4], 3, 3, 18)
ONE_BERTH = ([9], [7], 3, 3, 18)
LIGHT = (0, 1, 0, 1, 0, 1, 1)


def model_by(harbour, ships, order):
    """The plan by the order, hour by hour as point 25 tells it, or None."""
    came, berths, left = {}, {}, {}
    for hour in range(harbour[4] + 1):
        moved = []

        def can(name):
            tugs = sum(ships[other][4] for other in moved + [name])
            deep = model_depth(harbour, hour) >= ships[name][2]
            return deep and tugs <= harbour[2] and len(moved) < harbour[3]

        for name in range(len(ships)):
            if name in came and name not in left and hour >= came[name] + 1 + ships[name][3] and can(name):
                left[name] = hour
                moved.append(name)
        for name in order:
            if ships[name][0] <= hour and name not in came and can(name):
                hers = [berths[other] for other in came if left.get(other, hour) >= hour]
                free = [berth for berth, length in enumerate(harbour[1]) if length >= ships[name][1]]
                free = [berth for berth in free if berth not in hers]
                if free:
                    came[name] = hour
                    berths[name] = min(free, key=lambda berth: (harbour[1][berth], berth))
                    moved.append(name)
    if len(left) < len(ships):
        return None
    return [(came[name], berths[name], left[name]) for name in range(len(ships))]


def model_parting(harbour, ships, plan):
    """The parting of the plan, by all plans of the least cost."""
    plans = model_plans(harbour, ships)
    least = min(model_cost(ships, other) for other in plans)
    best = [other for other in plans if model_cost(ships, other) == least]

    def moves(told, hour):
        found = []
        for ship, (came, berth, left) in enumerate(told):
            found += [(came, ship, berth)] if came <= hour else []
            found += [(left, ship, None)] if left <= hour else []
        return found

    for hour in range(harbour[4] + 1):
        if moves(plan, hour) not in [moves(other, hour) for other in best]:
            return hour
    return None


class OrderTest(unittest.TestCase):
    def check(self, expected, rule, part, numbers):
        ships = [ship_with(LIGHT, **{part: number}) for number in numbers]
        self.assertEqual(order_of(ships, rule), expected)

    def test_first(self):
        self.check([1, 2, 0], "first", "ready", [20, 0, 9])
        self.check([1, 0, 2], "first", "ready", [5, 4, 5])

    def test_short(self):
        self.check([2, 0, 1], "short", "stay", [3, 4, 1])
        self.check([1, 0, 2], "short", "stay", [4, 2, 4])

    def test_dear(self):
        self.check([1, 2, 0], "dear", "sea", [0, 9, 3])
        self.check([2, 0, 1], "dear", "sea", [5, 5, 9])

    def test_shallow(self):
        self.check([1, 2, 0], "shallow", "draught", [40, 0, 9])
        self.check([0, 2, 1], "shallow", "draught", [6, 7, 6])

    def test_ships_that_are_alike_stand_by_their_names(self):
        for rule in ("first", "short", "dear", "shallow"):
            self.assertEqual(order_of([LIGHT], rule), [0])
            self.assertEqual(order_of([LIGHT, LIGHT], rule), [0, 1])
            self.assertEqual(order_of([LIGHT, LIGHT, LIGHT], rule), [0, 1, 2])

    def test_nothing_else_counts(self):
        # Alike in what counts, and all else is against the order of the names.
        high, low = (9, 9, 9, 4, 3, 9, 9), (0, 1, 0, 1, 0, 0, 0)
        for rule, part, at in (("first", "ready", 0), ("short", "stay", 3), ("shallow", "draught", 2)):
            self.assertEqual(order_of([ship_with(high, **{part: low[at]}), low], rule), [0, 1])
            self.assertEqual(order_of([ship_with(low, **{part: high[at]}), ship_with(high)], rule), [0, 1])
            self.assertEqual(order_of([high, low], rule), [1, 0])
        for ships in ([ship_with(high, sea=0), low], [ship_with(low, sea=9), high], [high, low]):
            self.assertEqual(order_of(ships, "dear"), [0, 1])
        self.assertEqual(order_of([low, high], "dear"), [1, 0])

    def test_an_order_is_a_list(self):
        self.assertIs(type(order_of(SHIPS, "dear")), list)


class PlanByTest(unittest.TestCase):
    def check(self, expected, harbour, ships, order):
        self.assertEqual(plan_by(harbour, ships, order), expected)
        self.assertEqual(model_by(harbour, ships, order), expected)

    def test_the_order_counts(self):
        ships = [ship_with(LIGHT, stay=2), ship_with(LIGHT, stay=3)]
        self.check([(0, 0, 3), (4, 0, 8)], ONE_BERTH, ships, [0, 1])
        self.check([(5, 0, 8), (0, 0, 4)], ONE_BERTH, ships, [1, 0])

    def test_the_order_counts_only_for_those_who_are_ready(self):
        ships = [ship_with(LIGHT, ready=1), LIGHT]
        self.check([(3, 0, 5), (0, 0, 2)], ONE_BERTH, ships, [0, 1])
        self.check([(3, 0, 5), (0, 0, 2)], ONE_BERTH, ships, [1, 0])

    def test_a_ship_that_must_wait_is_asked_again(self):
        harbour = harbour_with(ONE_BERTH, depths=[3, 3, 8])
        self.check([(2, 0, 5)], harbour, [ship_with(LIGHT, draught=8)], [0])
        self.check([(2, 0, 5)], harbour, [ship_with(LIGHT, draught=8, stay=2)], [0])
        self.check([(2, 0, 8)], harbour, [ship_with(LIGHT, draught=8, stay=3)], [0])
        self.check([(0, 0, 2)], harbour, [ship_with(LIGHT, draught=3)], [0])
        self.check(None, harbour, [ship_with(LIGHT, draught=9)], [0])

    def test_the_stay(self):
        for stay in (1, 2, 3, 4):
            self.check([(5, 0, 6 + stay)], ONE_BERTH, [ship_with(LIGHT, ready=5, stay=stay)], [0])

    def test_the_shortest_berth(self):
        self.check([(0, 1, 2)], WIDE, [LIGHT], [0])
        self.check([(0, 1, 2)], WIDE, [ship_with(LIGHT, length=4)], [0])
        self.check([(0, 0, 2)], WIDE, [ship_with(LIGHT, length=5)], [0])
        self.check([(0, 0, 2)], harbour_with(WIDE, berths=[4, 7]), [LIGHT], [0])
        self.check(None, WIDE, [ship_with(LIGHT, length=8)], [0])

    def test_berths_of_one_length(self):
        equal = harbour_with(WIDE, berths=[5, 5])
        self.check([(0, 0, 2)], equal, [LIGHT], [0])
        self.check([(0, 0, 2), (0, 1, 2)], equal, [LIGHT, LIGHT], [0, 1])
        self.check([(0, 1, 2), (0, 0, 2)], equal, [LIGHT, LIGHT], [1, 0])

    def test_a_berth_to_which_another_came_ahead_of_her(self):
        self.check([(0, 1, 2), (0, 0, 2)], WIDE, [LIGHT, LIGHT], [0, 1])
        self.check([(0, 0, 2), (0, 1, 2)], WIDE, [LIGHT, LIGHT], [1, 0])
        long = ship_with(LIGHT, length=5)
        self.check([(0, 0, 2), (3, 0, 5)], WIDE, [long, long], [0, 1])

    def test_the_shorter_berth_is_not_kept_for_who_needs_it(self):
        # The short ship has the short berth, but behind her the other short one takes the long berth.
        long = ship_with(LIGHT, length=7)
        self.check([(0, 1, 2), (0, 0, 2), (3, 0, 5)], WIDE, [LIGHT, LIGHT, long], [0, 1, 2])
        self.check([(0, 1, 2), (3, 1, 5), (0, 0, 2)], WIDE, [LIGHT, LIGHT, long], [0, 2, 1])

    def test_a_berth_that_is_given_up_in_the_hour_is_taken(self):
        self.check([(0, 0, 2), (3, 0, 5)], ONE_BERTH, [LIGHT, ship_with(LIGHT, ready=2)], [1, 0])
        # The other berth is free, though it is the longer one.
        self.check([(0, 1, 2), (2, 0, 4)], WIDE, [LIGHT, ship_with(LIGHT, ready=2)], [0, 1])
        self.check([(0, 1, 2), (3, 1, 5)], WIDE, [LIGHT, ship_with(LIGHT, ready=3)], [0, 1])

    def test_too_few_pilots(self):
        one = harbour_with(WIDE, pilots=1)
        self.check([(0, 1, 2), (1, 0, 3)], one, [LIGHT, LIGHT], [0, 1])
        self.check([(1, 0, 3), (0, 1, 2)], one, [LIGHT, LIGHT], [1, 0])
        # Who goes out is asked first, whatever the order is.
        self.check([(0, 1, 2), (3, 1, 5)], one, [LIGHT, ship_with(LIGHT, ready=2)], [1, 0])
        two = harbour_with(WIDE, pilots=2, berths=[7, 4])
        self.check([(0, 1, 2), (0, 0, 2), (3, 1, 5)], two, [LIGHT, LIGHT, LIGHT], [0, 1, 2])

    def test_who_goes_out_is_asked_by_her_name(self):
        one = harbour_with(WIDE, pilots=1)
        ships = [ship_with(LIGHT, stay=1), ship_with(LIGHT, stay=2)]
        self.check([(1, 0, 3), (0, 1, 4)], one, ships, [1, 0])
        tugs = harbour_with(WIDE, tugs=3)
        ships = [ship_with(LIGHT, tugs=2), ship_with(LIGHT, tugs=1, stay=2), ship_with(LIGHT, tugs=3, ready=3)]
        self.check([(0, 0, 2), (0, 1, 3), (4, 1, 6)], tugs, ships, [2, 1, 0])

    def test_too_few_tugs(self):
        two = ship_with(LIGHT, tugs=2)
        self.check([(0, 1, 2), (1, 0, 3)], WIDE, [two, two], [0, 1])
        self.check([(1, 0, 3), (0, 1, 2)], WIDE, [two, two], [1, 0])
        self.check([(0, 1, 2), (0, 0, 2)], harbour_with(WIDE, tugs=4), [two, two], [0, 1])
        # Who needs too many is passed over, and the next one is asked.
        one = ship_with(LIGHT, tugs=1)
        self.check([(0, 1, 2), (0, 0, 2)], WIDE, [two, one], [0, 1])
        self.check([(0, 1, 2), (3, 1, 5), (0, 0, 2)], WIDE, [two, two, one], [0, 1, 2])
        self.check(None, harbour_with(WIDE, tugs=1), [one, two], [0, 1])

    def test_who_goes_out_needs_tugs_too(self):
        two, ready = ship_with(LIGHT, tugs=2), ship_with(LIGHT, tugs=2, ready=2)
        self.check([(0, 1, 2), (3, 1, 5)], WIDE, [two, ready], [1, 0])
        self.check([(0, 1, 2), (2, 0, 4)], harbour_with(WIDE, tugs=4), [two, ready], [1, 0])

    def test_a_ship_that_is_passed_over_needs_nothing(self):
        # No berth is long enough, or the water is too low: the last tugs are for the next ship.
        long, low = ship_with(LIGHT, length=6, tugs=3), ship_with(LIGHT, draught=9, tugs=3)
        small = ship_with(LIGHT, tugs=3)
        self.check(None, harbour_with(WIDE, berths=[5]), [long, small], [0, 1])
        tide = harbour_with(WIDE, depths=[8, 9, 8], pilots=1)
        self.check([(1, 0, 4), (0, 1, 2)], tide, [low, small], [0, 1])

    def test_the_last_hour(self):
        self.check([(16, 0, 18)], ONE_BERTH, [ship_with(LIGHT, ready=16)], [0])
        self.check(None, ONE_BERTH, [ship_with(LIGHT, ready=17)], [0])
        self.check(None, harbour_with(ONE_BERTH, last=4), [LIGHT, LIGHT], [0, 1])
        self.check([(0, 0, 2), (3, 0, 5)], harbour_with(ONE_BERTH, last=5), [LIGHT, LIGHT], [0, 1])

    def test_kinds_of_values(self):
        plan = plan_by(HARBOUR, SHIPS, [0, 1])
        self.assertEqual([type(plan), type(plan[0]), type(plan[0][0])], [list, tuple, int])

    def test_plans_by_the_model(self):
        chance = random.Random(25)
        found = []
        for _ in range(1500):
            if chance.random() < 0.5:
                harbour, ships = small_case(chance, last=chance.randint(4, 20), count=chance.randint(1, 3))
            else:
                harbour = some_harbour(chance)
                ships = [some_ship(chance) for _ in range(chance.randint(1, 3))]
            for order in itertools.permutations(range(len(ships))):
                plan = plan_by(harbour, ships, list(order))
                self.assertEqual(plan, model_by(harbour, ships, order), (harbour, ships, order))
                self.assertTrue(plan is None or is_plan(harbour, ships, plan))
                found.append(plan)
        self.assertGreater(len(found) - found.count(None), 1000)
        self.assertGreater(found.count(None), 1000)

    def test_one_ship_has_the_hours_of_her_soonest_plan(self):
        chance = random.Random(27)
        other_berth = 0
        for _ in range(1000):
            harbour, ships = small_case(chance, last=chance.randint(4, 20), count=1)
            plan = plan_by(harbour, ships, [0])
            expected = soonest(harbour, ships[0])
            self.assertEqual(plan is None, expected is None)
            if plan is not None:
                self.assertEqual((plan[0][0], plan[0][2]), (expected[0], expected[2]))
                other_berth += plan[0][1] != expected[1]
        self.assertGreater(other_berth, 20)


class PriceTest(unittest.TestCase):
    def test_prices(self):
        ships = [ship_with(LIGHT, sea=1), ship_with(LIGHT, sea=5)]
        # Who waits does so for three hours.
        self.assertEqual(price_of(ONE_BERTH, ships, [0, 1]), 12)
        self.assertEqual(price_of(ONE_BERTH, ships, [1, 0]), 0)
        self.assertEqual(best_orders(ONE_BERTH, ships), [[1, 0]])

    def test_a_rule_can_be_worse_than_all_waiting(self):
        # To come in at once means to lie dear hours: the best plan waits at sea.
        harbour, ships = ([9, 0, 0, 9, 9, 9], [5], 1, 1, 12), [ship_with(LIGHT, stay=1, draught=9, sea=0, lie=9)]
        self.assertEqual(plan_by(harbour, ships, [0]), [(0, 0, 3)])
        self.assertEqual((price_of(harbour, ships, [0]), best_orders(harbour, ships)), (9, [[0]]))

    def test_no_plan_by_the_order(self):
        harbour = harbour_with(ONE_BERTH, last=4)
        self.assertIsNone(price_of(harbour, [LIGHT, LIGHT], [0, 1]))
        self.assertEqual(best_orders(harbour, [LIGHT, LIGHT]), [])

    def test_a_plan_by_one_of_the_orders_alone(self):
        # The water lets ship 1 move in the hours 0 and 3 only.
        harbour, ships = ([9, 1, 1, 9, 1, 1, 1], [5], 1, 1, 6), [LIGHT, ship_with(LIGHT, stay=2, draught=9)]
        self.assertEqual(plan_by(harbour, ships, [1, 0]), [(4, 0, 6), (0, 0, 3)])
        self.assertEqual((price_of(harbour, ships, [0, 1]), price_of(harbour, ships, [1, 0])), (None, 0))
        self.assertEqual(best_orders(harbour, ships), [[1, 0]])

    def test_a_plan_but_none_by_any_order(self):
        # Ship 1 comes in at once, and goes out when it is too late for ship 0.
        harbour, ships = ([1, 9, 1, 9, 9, 1], [5], 1, 1, 6), [ship_with(LIGHT, ready=1, draught=9), LIGHT]
        self.assertEqual(model_plans(harbour, ships), [[(1, 0, 3), (4, 0, 6)]])
        for order in ([0, 1], [1, 0]):
            self.assertIsNone(plan_by(harbour, ships, order))
            self.assertIsNone(price_of(harbour, ships, order))
        self.assertEqual(best_orders(harbour, ships), [])

    def test_all_orders_are_best(self):
        orders = [list(order) for order in itertools.permutations(range(3))]
        self.assertEqual(best_orders(ONE_BERTH, [LIGHT, LIGHT, LIGHT]), orders)
        self.assertEqual(best_orders(WIDE, [LIGHT, LIGHT]), [[0, 1], [1, 0]])
        self.assertEqual(best_orders(WIDE, [LIGHT]), [[0]])

    def test_kinds_of_values(self):
        found = best_orders(HARBOUR, SHIPS)
        self.assertEqual([type(found), type(found[0])], [list, list])

    def test_prices_and_best_orders_by_all_plans(self):
        chance = random.Random(26)
        prices = []
        some_none = 0
        for _ in range(150):
            harbour, ships = small_case(chance, last=7, count=chance.choice([1, 2, 2, 3]))
            orders = [list(order) for order in itertools.permutations(range(len(ships)))]
            found = [price_of(harbour, ships, order) for order in orders]
            self.assertEqual(found, [price_by_all(harbour, ships, order) for order in orders])
            told = [price for price in found if price is not None]
            best = [order for order, price in zip(orders, found) if told and price == min(told)]
            self.assertEqual(best_orders(harbour, ships), best)
            prices.extend(told)
            some_none += bool(told) and None in found
        self.assertGreater(len([price for price in prices if price > 0]), 15)
        self.assertGreater(some_none, 0)
        self.assertGreaterEqual(min(prices), 0)


def price_by_all(harbour, ships, order):
    plan = model_by(harbour, ships, order)
    if plan is None:
        return None
    return model_cost(ships, plan) - min(model_cost(ships, other) for other in model_plans(harbour, ships))


class PartingTest(unittest.TestCase):
    def test_a_plan_of_the_least_cost(self):
        self.assertIsNone(parting(HARBOUR, SHIPS, PLAN))
        self.assertIsNone(parting(WIDE, [LIGHT], [(0, 0, 2)]))
        self.assertIsNone(parting(WIDE, [LIGHT], [(0, 1, 2)]))

    def test_a_ship_that_does_not_move_when_she_should(self):
        self.assertEqual(parting(HARBOUR, SHIPS, [(0, 0, 5), (8, 0, 12)]), 3)
        self.assertEqual(parting(HARBOUR, SHIPS, [(1, 0, 4), (8, 0, 12)]), 0)
        self.assertEqual(parting(HARBOUR, SHIPS, [(0, 0, 3), (8, 0, 12)]), 4)
        self.assertEqual(parting(HARBOUR, SHIPS, [(0, 0, 3), (4, 0, 12)]), 8)

    def test_a_ship_that_moves_when_she_should_not(self):
        ships = [ship_with(LIGHT, sea=1), ship_with(LIGHT, sea=5)]
        self.assertEqual(parting(ONE_BERTH, ships, [(0, 0, 2), (3, 0, 5)]), 0)
        self.assertEqual(parting(ONE_BERTH, [LIGHT, ship_with(LIGHT, ready=1, sea=9)], [(0, 0, 2), (3, 0, 5)]), 0)

    def test_hours_that_cost_nothing_are_no_parting(self):
        lazy = ship_with(LIGHT, sea=0)
        self.assertIsNone(parting(WIDE, [lazy], [(9, 0, 11)]))
        self.assertEqual(parting(WIDE, [lazy], [(9, 0, 12)]), 11)

    def test_two_best_plans_part(self):
        # Either of them may come in first; it is the later going out that is too dear.
        self.assertIsNone(parting(ONE_BERTH, [LIGHT, LIGHT], [(0, 0, 2), (3, 0, 5)]))
        self.assertIsNone(parting(ONE_BERTH, [LIGHT, LIGHT], [(3, 0, 5), (0, 0, 2)]))
        self.assertEqual(parting(ONE_BERTH, [LIGHT, LIGHT], [(3, 0, 6), (0, 0, 2)]), 5)

    def test_partings_by_all_plans(self):
        chance = random.Random(28)
        found = []
        for _ in range(60):
            harbour, ships = small_case(chance, last=7)
            plans = model_plans(harbour, ships)
            for plan in chance.sample(plans, min(len(plans), 6)):
                hour = parting(harbour, ships, plan)
                self.assertEqual(hour, model_parting(harbour, ships, plan), (harbour, ships, plan))
                self.assertEqual(hour is None, price_of_plan(harbour, ships, plan) == 0)
                found.append(hour)
        self.assertGreater(found.count(None), 10)
        self.assertGreater(len({hour for hour in found if hour is not None}), 4)


def price_of_plan(harbour, ships, plan):
    return cost_of(ships, plan) - min(model_cost(ships, other) for other in model_plans(harbour, ships))


if __name__ == "__main__":
    unittest.main()
