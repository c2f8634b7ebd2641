"""Points 45 to 52: hours and promises, best plans that keep them, clashes, soonest hours, prices, promises in turn."""

import random
import unittest

from tests.all_plans import console_case, least_of_all, parts, plans_keeping
from tests.helper import HARBOUR, PLAN, SHIPS, harbour_with, model_cost, ship_with
from tidewaits.promises import (
    best_keeping, can_keep, clash_of, clashes, in_turn, latest_of, price_of, soonest_hour,
)

# One berth, deep enough: ships in a row go out at 2, 5 and 8 at the soonest.
ROW = ([9], [9], 3, 3, 9)
LIGHT = (0, 1, 0, 1, 0, 1, 1)
THREE = [LIGHT, LIGHT, LIGHT]
# Two of them can be there at once.
PAIR = ([9], [9, 9], 3, 3, 20)


class LatestTest(unittest.TestCase):
    def test_latest(self):
        self.assertEqual(latest_of([6, 8, 0], []), [None, None, None])
        self.assertEqual(latest_of([6, 8, 0], [1]), [None, 8, None])
        self.assertEqual(latest_of([6, 8, 0], [0, 2]), [6, None, 0])
        self.assertEqual(latest_of([6, 8, 100], [0, 1, 2]), [6, 8, 100])
        self.assertEqual(latest_of([0], [0]), [0])


class KeepTest(unittest.TestCase):
    def check(self, expected, harbour, ships, hours, names):
        self.assertIs(can_keep(harbour, ships, hours, names), expected)
        self.assertIs(plans_keeping(harbour, ships, latest_of(hours, names)) != [], expected)

    def test_nothing_promised(self):
        self.check(True, HARBOUR, SHIPS, [0, 0], [])
        self.check(False, harbour_with(last=7), SHIPS, [100, 100], [])

    def test_some_promised(self):
        self.check(True, ROW, THREE, [2, 2, 2], [1])
        self.check(False, ROW, THREE, [2, 2, 2], [0, 1])
        self.check(True, ROW, THREE, [2, 5, 0], [0, 1])
        self.check(True, ROW, THREE, [0, 5, 2], [1, 2])
        self.check(False, ROW, THREE, [1, 5, 2], [0])

    def test_all_promised(self):
        self.check(True, ROW, THREE, [8, 5, 2], [0, 1, 2])
        self.check(False, ROW, THREE, [7, 5, 2], [0, 1, 2])
        self.check(False, ROW, THREE, [8, 4, 2], [0, 1, 2])
        self.check(True, ROW, THREE, [8, 8, 8], [0, 1, 2])
        self.check(False, ROW, THREE, [8, 5, 1], [0, 1, 2])

    def test_hours_of_0_and_100(self):
        self.check(False, ROW, THREE, [0, 100, 100], [0])
        self.check(True, ROW, THREE, [100, 100, 100], [0, 1, 2])
        # She must go out by the last hour all the same.
        self.check(False, harbour_with(ROW, last=7), THREE, [100, 100, 100], [0, 1, 2])

    def test_the_hour_itself_keeps_the_promise(self):
        for hour, kept in ((7, False), (8, True), (9, True)):
            self.check(kept, HARBOUR, SHIPS, [100, hour], [1])

    def test_each_part_of_promises_can_be_kept(self):
        chance = random.Random(47)
        for _ in range(30):
            harbour, ships = console_case(chance)
            hours = [chance.randint(0, harbour[4] + 1) for _ in ships]
            for names in parts(range(len(ships))):
                self.check(plans_keeping(harbour, ships, latest_of(hours, names)) != [], harbour, ships, hours, names)
                if can_keep(harbour, ships, hours, names):
                    self.assertTrue(all(can_keep(harbour, ships, hours, part) for part in parts(names)))


class BestKeepingTest(unittest.TestCase):
    def test_nothing_promised(self):
        self.assertEqual(best_keeping(HARBOUR, SHIPS, [0, 0], []), (10, PLAN))

    def test_promises_that_cost_something(self):
        ships = [ship_with(LIGHT, sea=5), LIGHT]
        self.assertEqual(best_keeping(ROW, ships, [100, 100], [0, 1]), (3, [(0, 0, 2), (3, 0, 5)]))
        self.assertEqual(best_keeping(ROW, ships, [100, 4], [1]), (15, [(3, 0, 5), (0, 0, 2)]))
        self.assertEqual(best_keeping(ROW, ships, [5, 2], [0, 1]), (15, [(3, 0, 5), (0, 0, 2)]))

    def test_promises_that_cannot_be_kept(self):
        self.assertIsNone(best_keeping(ROW, THREE, [2, 2, 2], [0, 1]))
        self.assertIsNone(best_keeping(HARBOUR, SHIPS, [2, 8], [0]))
        self.assertIsNone(best_keeping(harbour_with(last=7), SHIPS, [0, 0], []))

    def test_the_first_of_several_best_plans(self):
        # Who waits is no matter, nor at which of the berths she lies.
        self.assertEqual(best_keeping(ROW, [LIGHT, LIGHT], [9, 9], [0, 1]), (3, [(0, 0, 2), (3, 0, 5)]))
        self.assertEqual(best_keeping(ROW, [LIGHT, LIGHT], [9, 4], [1]), (3, [(3, 0, 5), (0, 0, 2)]))
        self.assertEqual(best_keeping(PAIR, [LIGHT, LIGHT], [2, 2], [0, 1]), (0, [(0, 0, 2), (0, 1, 2)]))
        free = ship_with(LIGHT, sea=0, lie=0)
        self.assertEqual(best_keeping(PAIR, [free, LIGHT], [20, 20], [0]), (0, [(0, 0, 2), (0, 1, 2)]))
        self.assertEqual(best_keeping(ROW, [free, LIGHT], [6, 20], [0]), (0, [(3, 0, 5), (0, 0, 2)]))
        # The tuples are compared ship by ship.
        self.assertEqual(best_keeping(PAIR, [LIGHT, free], [20, 20], [1]), (0, [(0, 0, 2), (0, 1, 2)]))
        self.assertEqual(best_keeping(PAIR, [LIGHT, free, free], [9] * 3, [2])[1], [(0, 0, 2), (0, 1, 2), (3, 0, 5)])

    def test_against_all_plans(self):
        chance = random.Random(46)
        for _ in range(30):
            harbour, ships = console_case(chance)
            hours = [chance.randint(0, harbour[4] + 1) for _ in ships]
            least = least_of_all(harbour, ships)
            for names in parts(range(len(ships))):
                plans = plans_keeping(harbour, ships, latest_of(hours, names))
                best = min([(model_cost(ships, plan), plan) for plan in plans], default=None)
                self.assertEqual(best_keeping(harbour, ships, hours, names), best)
                self.assertEqual(price_of(harbour, ships, hours, names), None if best is None else best[0] - least)


class PriceTest(unittest.TestCase):
    def test_prices(self):
        ships = [ship_with(LIGHT, sea=5), LIGHT]
        self.assertEqual(price_of(ROW, ships, [100, 4], []), 0)
        self.assertEqual(price_of(ROW, ships, [2, 5], [0, 1]), 0)
        self.assertEqual(price_of(ROW, ships, [100, 4], [1]), 12)
        self.assertEqual(price_of(HARBOUR, SHIPS, [6, 8], [0, 1]), 0)

    def test_promises_that_cannot_be_kept_have_none(self):
        self.assertIsNone(price_of(ROW, THREE, [2, 2, 2], [0, 1]))
        self.assertIsNone(price_of(ROW, THREE, [0, 100, 100], [0]))
        self.assertIsNone(price_of(harbour_with(last=7), SHIPS, [0, 0], []))

    def test_more_promises_and_earlier_hours_never_cost_less(self):
        chance = random.Random(48)
        for _ in range(30):
            harbour, ships = console_case(chance)
            hours = [chance.randint(3, harbour[4] + 1) for _ in ships]
            sooner = [chance.randint(2, hour) for hour in hours]
            for names in parts(range(len(ships))):
                prices = [price_of(harbour, ships, told, names) for told in (hours, sooner)]
                prices += [price_of(harbour, ships, hours, part) for part in parts(names)]
                if prices[1] is not None:
                    self.assertLessEqual(prices[0], prices[1])
                if prices[0] is not None:
                    self.assertLessEqual(max(prices[2:]), prices[0])
                    self.assertGreaterEqual(prices[0], 0)


class ClashesTest(unittest.TestCase):
    def test_no_plan_at_all(self):
        self.assertEqual(clashes(harbour_with(last=7), SHIPS, [100, 100]), [[]])
        self.assertEqual(clashes(harbour_with(last=7), SHIPS, [0, 0]), [[]])

    def test_none(self):
        self.assertEqual(clashes(HARBOUR, SHIPS, [6, 8]), [])
        self.assertEqual(clashes(ROW, THREE, [2, 5, 8]), [])
        self.assertEqual(clashes(ROW, THREE, [100, 100, 100]), [])

    def test_one_ship(self):
        self.assertEqual(clashes(HARBOUR, SHIPS, [2, 8]), [[0]])
        self.assertEqual(clashes(HARBOUR, SHIPS, [6, 7]), [[1]])
        self.assertEqual(clashes(ROW, THREE, [1, 0, 1]), [[0], [1], [2]])

    def test_two_ships(self):
        self.assertEqual(clashes(ROW, THREE, [2, 4, 8]), [[0, 1]])
        self.assertEqual(clashes(ROW, THREE, [4, 4, 4]), [[0, 1], [0, 2], [1, 2]])
        self.assertEqual(clashes(ROW, THREE, [4, 8, 2]), [[0, 2]])

    def test_three_ships(self):
        self.assertEqual(clashes(ROW, THREE, [5, 5, 5]), [[0, 1, 2]])
        self.assertEqual(clashes(ROW, THREE, [7, 7, 7]), [[0, 1, 2]])

    def test_several_in_order(self):
        self.assertEqual(clashes(ROW, THREE, [4, 1, 4]), [[1], [0, 2]])
        self.assertEqual(clashes(ROW, THREE, [4, 4, 1]), [[2], [0, 1]])
        self.assertEqual(clashes(ROW, THREE, [1, 4, 4]), [[0], [1, 2]])
        self.assertEqual(clashes(ROW, THREE, [2, 4, 4]), [[0, 1], [0, 2], [1, 2]])
        self.assertEqual(clashes(ROW, THREE, [4, 7, 4]), [[0, 2]])

    def test_against_all_plans(self):
        chance = random.Random(49)
        for _ in range(30):
            harbour, ships = console_case(chance)
            hours = [chance.randint(1, harbour[4] + 1) for _ in ships]
            names = parts(range(len(ships)))
            kept = [part for part in names if plans_keeping(harbour, ships, latest_of(hours, part))]
            expected = []
            for part in names:
                fewer = [[name for name in part if name != left] for left in part]
                if part not in kept and all(one in kept for one in fewer):
                    expected.append(part)
            found = clashes(harbour, ships, hours)
            self.assertEqual(found, expected)
            for part in names:
                clashing = any(set(clash) <= set(part) for clash in found)
                self.assertIs(can_keep(harbour, ships, hours, part), not clashing)


class ClashOfTest(unittest.TestCase):
    def test_none(self):
        self.assertIsNone(clash_of(ROW, THREE, [2, 5, 8], [0, 1], 2))
        self.assertIsNone(clash_of(ROW, THREE, [2, 5, 8], [], 2))
        self.assertIsNone(clash_of(HARBOUR, SHIPS, [6, 8], [1], 0))

    def test_empty_if_hers_cannot_be_kept_alone(self):
        self.assertEqual(clash_of(ROW, THREE, [2, 5, 1], [0, 1], 2), [])
        self.assertEqual(clash_of(ROW, THREE, [2, 5, 0], [], 2), [])
        self.assertEqual(clash_of(HARBOUR, SHIPS, [2, 8], [1], 0), [])

    def test_promised_ships(self):
        self.assertEqual(clash_of(ROW, THREE, [2, 5, 4], [0], 2), [0])
        self.assertEqual(clash_of(ROW, THREE, [2, 5, 4], [0, 1], 2), [0])
        self.assertEqual(clash_of(ROW, THREE, [5, 2, 4], [0, 1], 2), [1])
        self.assertEqual(clash_of(ROW, THREE, [5, 5, 5], [0, 1], 2), [0, 1])
        self.assertEqual(clash_of(ROW, THREE, [5, 5, 5], [1, 2], 0), [1, 2])
        self.assertEqual(clash_of(ROW, THREE, [2, 100, 4], [0, 1], 2), [0])

    def test_the_first_of_several(self):
        # With each one of them she could not be kept; the least number of ships comes first, then the least names.
        ships = [LIGHT, LIGHT, ship_with(LIGHT, stay=4)]
        harbour = harbour_with(ROW, last=11)
        self.assertEqual(clash_of(harbour, ships, [5, 5, 5], [0, 1], 2), [0])
        self.assertEqual(clash_of(harbour, ships, [8, 2, 5], [0, 1], 2), [1])

    def test_hours_of_others_do_not_count(self):
        self.assertIsNone(clash_of(ROW, THREE, [0, 0, 2], [], 2))
        self.assertIsNone(clash_of(ROW, THREE, [0, 5, 2], [1], 2))


class SoonestTest(unittest.TestCase):
    def test_soonest_hours(self):
        self.assertEqual(soonest_hour(HARBOUR, SHIPS, [6, 8], [1], 0), 3)
        self.assertEqual(soonest_hour(ROW, THREE, [2, 5, 0], [], 2), 2)
        self.assertEqual(soonest_hour(ROW, THREE, [2, 5, 0], [0], 2), 5)
        self.assertEqual(soonest_hour(ROW, THREE, [2, 5, 0], [0, 1], 2), 8)
        self.assertEqual(soonest_hour(ROW, THREE, [5, 5, 0], [0, 1], 2), 8)
        self.assertEqual(soonest_hour(ROW, THREE, [100, 100, 0], [0, 1], 2), 2)

    def test_her_own_hour_does_not_count(self):
        for hour in (0, 5, 100):
            self.assertEqual(soonest_hour(ROW, THREE, [2, hour, 5], [0, 2], 1), 8)

    def test_the_last_hour(self):
        self.assertEqual(soonest_hour(harbour_with(ROW, last=8), THREE, [2, 5, 0], [0, 1], 2), 8)
        self.assertEqual(soonest_hour(harbour_with(ROW, last=2), [LIGHT], [0], [], 0), 2)

    def test_it_can_be_kept_and_an_hour_less_cannot(self):
        chance = random.Random(50)
        asked = 0
        for _ in range(30):
            harbour, ships = console_case(chance)
            hours = [chance.randint(3, harbour[4] + 1) for _ in ships]
            for names in parts(range(len(ships))):
                plans = plans_keeping(harbour, ships, latest_of(hours, names))
                for ship in range(len(ships)):
                    if not plans or ship in names:
                        continue
                    hour = soonest_hour(harbour, ships, hours, names, ship)
                    self.assertEqual(hour, min(plan[ship][2] for plan in plans))
                    told = [(hours[:ship] + [least] + hours[ship + 1:]) for least in (hour, hour - 1)]
                    kept = [can_keep(harbour, ships, latest, sorted(names + [ship])) for latest in told]
                    self.assertEqual(kept, [True, False])
                    asked += 1
        self.assertGreater(asked, 30)


class InTurnTest(unittest.TestCase):
    def test_none_is_refused(self):
        self.assertEqual(in_turn(ROW, THREE, [2, 5, 8], [0, 1, 2]), ([0, 1, 2], []))
        self.assertEqual(in_turn(ROW, THREE, [2, 5, 8], [2, 0, 1]), ([0, 1, 2], []))
        self.assertEqual(in_turn(ROW, THREE, [100, 100, 100], [1, 2, 0]), ([0, 1, 2], []))

    def test_some_are_refused(self):
        self.assertEqual(in_turn(HARBOUR, SHIPS, [2, 8], [0, 1]), ([1], [(0, [])]))
        self.assertEqual(in_turn(ROW, THREE, [4, 4, 4], [0, 1, 2]), ([0], [(1, [0]), (2, [0])]))
        self.assertEqual(in_turn(ROW, THREE, [4, 4, 4], [2, 1, 0]), ([2], [(1, [2]), (0, [2])]))
        self.assertEqual(in_turn(ROW, THREE, [5, 5, 5], [2, 0, 1]), ([0, 2], [(1, [0, 2])]))
        self.assertEqual(in_turn(ROW, THREE, [5, 1, 4], [2, 1, 0]), ([0, 2], [(1, [])]))

    def test_all_are_refused(self):
        self.assertEqual(in_turn(ROW, THREE, [1, 0, 1], [2, 0, 1]), ([], [(2, []), (0, []), (1, [])]))

    def test_orders_of_some_of_the_ships(self):
        self.assertEqual(in_turn(ROW, THREE, [2, 2, 2], []), ([], []))
        self.assertEqual(in_turn(ROW, THREE, [2, 2, 2], [1]), ([1], []))
        self.assertEqual(in_turn(ROW, THREE, [2, 2, 5], [2, 1]), ([1, 2], []))
        self.assertEqual(in_turn(ROW, THREE, [2, 2, 4], [2, 1]), ([2], [(1, [2])]))

    def test_against_all_plans(self):
        chance = random.Random(52)
        for _ in range(30):
            harbour, ships = console_case(chance)
            hours = [chance.randint(1, harbour[4] + 1) for _ in ships]
            if not plans_keeping(harbour, ships, [None] * len(ships)):
                continue
            order = chance.sample(range(len(ships)), chance.randint(0, len(ships)))
            promised, refused = [], []
            for ship in order:
                wrong = []
                for part in parts(sorted(promised)):
                    if not plans_keeping(harbour, ships, latest_of(hours, part + [ship])):
                        wrong.append(part)
                if wrong:
                    refused.append((ship, wrong[0]))
                else:
                    promised.append(ship)
            self.assertEqual(in_turn(harbour, ships, hours, order), (sorted(promised), refused))


if __name__ == "__main__":
    unittest.main()
