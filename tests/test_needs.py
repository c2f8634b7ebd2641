"""Points 39 to 44: tugs, pilots and depth for a cost, steps, least pairs, what ships add and berths spare, draughts."""

import random
import unittest

from tests.all_plans import console_case, least_of_all, model_steps, number
from tests.helper import HARBOUR, SHIPS, harbour_with, ship_with
from tidewaits.best import least_cost
from tidewaits.needs import (
    added_by, depth_steps, greatest_draught, least_depth, least_pairs, least_pilots, least_tugs, pilot_steps,
    spared_by, tug_steps,
)

# Two ships alike, each of whom needs two tugs, in a harbour that has place and depth enough for both.
WIDE = ([9], [9, 9], 4, 2, 20)
TWO = [(0, 1, 9, 1, 2, 5, 1), (0, 1, 9, 1, 2, 3, 1)]
LIGHT = (0, 1, 0, 1, 0, 1, 1)


def deeper(harbour, more):
    return harbour_with(harbour, depths=[depth + more for depth in harbour[0]])


def cost_functions(harbour, ships):
    """For tugs, pilots and depth the least cost with a number of them, found among all plans."""
    return [
        lambda n: least_of_all(harbour_with(harbour, tugs=n), ships),
        lambda n: least_of_all(harbour_with(harbour, pilots=n), ships),
        lambda n: least_of_all(deeper(harbour, n), ships),
    ]


class LeastTest(unittest.TestCase):
    def test_tugs(self):
        # With three tugs only one ship moves in an hour: the cheaper one waits for an hour.
        self.assertEqual([least_tugs(WIDE, TWO, cost=cost) for cost in (0, 2, 3, 4, 10 ** 9)], [4, 4, 2, 2, 2])

    def test_pilots(self):
        self.assertEqual([least_pilots(WIDE, TWO, cost=cost) for cost in (0, 2, 3, 4, 10 ** 9)], [2, 2, 1, 1, 1])

    def test_depth(self):
        harbour = harbour_with(WIDE, depths=[7, 5, 5])
        # With two feet more they pass each third hour, with four in each one.
        self.assertEqual([least_depth(harbour, TWO, cost=cost) for cost in (0, 1, 2, 50)], [4, 4, 2, 2])
        self.assertEqual(least_depth(WIDE, TWO, cost=0), 0)

    def test_the_own_number_of_the_harbour_does_not_count(self):
        for own in (0, 1, 6):
            self.assertEqual(least_tugs(harbour_with(WIDE, tugs=own), TWO, cost=0), 4)
            self.assertEqual(tug_steps(harbour_with(WIDE, tugs=own), TWO), [(2, 3), (4, 0)])
        for own in (1, 2, 3):
            self.assertEqual(least_pilots(harbour_with(WIDE, pilots=own), TWO, cost=0), 2)
            self.assertEqual(pilot_steps(harbour_with(WIDE, pilots=own), TWO), [(1, 3), (2, 0)])

    def test_no_number_is_enough(self):
        # A ship that is too long, a day that is too short, a cost that must be.
        for harbour, ships, cost in (
            (WIDE, [ship_with(LIGHT, length=10)], 1000),
            (harbour_with(WIDE, last=1), TWO, 1000),
            (harbour_with(WIDE, berths=[9]), [ship_with(LIGHT, sea=2), LIGHT], 2),
        ):
            for least in (least_tugs, least_pilots, least_depth):
                self.assertIsNone(least(harbour, ships, cost=cost))
        self.assertEqual(least_pilots(harbour_with(WIDE, berths=[9]), [LIGHT, LIGHT], cost=3), 1)
        self.assertIsNone(least_pilots(harbour_with(WIDE, berths=[9]), [LIGHT, LIGHT], cost=2))

    def test_numbers_of_0(self):
        self.assertEqual(least_tugs(WIDE, [LIGHT], cost=0), 0)
        self.assertEqual(least_depth(WIDE, [LIGHT], cost=0), 0)
        self.assertEqual(least_pilots(WIDE, [LIGHT], cost=0), 1)

    def test_numbers_beyond_those_of_harbours(self):
        ships = [ship_with(LIGHT, tugs=3)] * 3
        harbour = ([0], [9, 9, 9], 6, 3, 20)
        self.assertEqual(least_tugs(harbour, ships, cost=0), 9)
        self.assertEqual([cost for _, cost in tug_steps(harbour, ships)][-1], 0)
        self.assertEqual(least_depth(harbour, [ship_with(LIGHT, draught=40)], cost=0), 40)
        self.assertEqual(least_depth(harbour_with(harbour, depths=[40, 40]), [ship_with(LIGHT, draught=40)], cost=0), 0)

    def test_the_example(self):
        ships = SHIPS[:1]
        self.assertEqual((least_tugs(HARBOUR, ships, cost=0), tug_steps(HARBOUR, ships)), (1, [(1, 0)]))
        self.assertEqual(depth_steps(HARBOUR, [ship_with(ready=2)]), [(0, 4), (2, 0)])


class StepsTest(unittest.TestCase):
    def test_tugs_and_pilots(self):
        self.assertEqual((tug_steps(WIDE, TWO), pilot_steps(WIDE, TWO)), ([(2, 3), (4, 0)], [(1, 3), (2, 0)]))

    def test_depth(self):
        harbour = harbour_with(WIDE, depths=[7, 5, 5])
        self.assertEqual(depth_steps(harbour, TWO), [(2, 2), (4, 0)])
        self.assertEqual(depth_steps(WIDE, TWO), [(0, 0)])

    def test_many_depths(self):
        # Each foot more lets her in an hour sooner; she goes out when the water comes back.
        harbour = ([0, 3, 5, 7, 9], [9], 3, 1, 20)
        ship = (0, 1, 9, 2, 1, 2, 0)
        self.assertEqual(depth_steps(harbour, [ship]), [(0, 8), (2, 6), (4, 4), (6, 2), (9, 0)])
        self.assertEqual(depth_steps(harbour, [ship_with(ship, lie=5)])[0], (0, 18))

    def test_one_step_only(self):
        self.assertEqual(tug_steps(WIDE, [LIGHT]), [(0, 0)])
        self.assertEqual(pilot_steps(WIDE, [LIGHT]), [(1, 0)])
        self.assertEqual(tug_steps(WIDE, [ship_with(LIGHT, tugs=3)]), [(3, 0)])

    def test_none_without_a_plan(self):
        for harbour, ships in ((WIDE, [ship_with(LIGHT, length=10)]), (harbour_with(WIDE, last=1), TWO)):
            for steps in (tug_steps, pilot_steps, depth_steps):
                self.assertEqual(steps(harbour, ships), [])
        # What is missing is no matter of the thing that is asked about.
        self.assertEqual(tug_steps(harbour_with(WIDE, depths=[8]), TWO), [])
        self.assertEqual(pilot_steps(harbour_with(WIDE, tugs=1), TWO), [])
        self.assertEqual(depth_steps(harbour_with(WIDE, tugs=1), TWO), [])

    def test_against_all_plans(self):
        chance = random.Random(39)
        many = {}
        for _ in range(40):
            harbour, ships = console_case(chance)
            harbour = harbour_with(harbour, last=min(7, harbour[4]))
            asked = zip(
                cost_functions(harbour, ships), (tug_steps, pilot_steps, depth_steps),
                (least_tugs, least_pilots, least_depth),
            )
            for cost_at, steps, least in asked:
                expected = model_steps(cost_at, range(12))
                self.assertEqual(steps(harbour, ships), expected, (harbour, ships))
                many[len(expected)] = many.get(len(expected), 0) + 1
                for cost in [0, 1000] + [cost + less for _, cost in expected for less in (0, -1)]:
                    if cost >= 0:
                        enough = [n for n, reached in expected if reached <= cost]
                        self.assertEqual(least(harbour, ships, cost=cost), enough[0] if enough else None)
        self.assertTrue(all(many.get(steps, 0) > 5 for steps in (0, 1, 2)), many)


class PairsTest(unittest.TestCase):
    def test_one_pair(self):
        for cost, pair in ((0, (4, 2)), (2, (4, 2)), (3, (2, 1)), (99, (2, 1))):
            self.assertEqual(least_pairs(WIDE, TWO, cost=cost), [pair])
        self.assertEqual(least_pairs(WIDE, [LIGHT], cost=0), [(0, 1)])

    def test_no_pair(self):
        self.assertEqual(least_pairs(harbour_with(WIDE, berths=[9]), [LIGHT, LIGHT], cost=2), [])
        self.assertEqual(least_pairs(WIDE, [ship_with(LIGHT, length=10)], cost=1000), [])

    def test_the_own_numbers_of_the_harbour_do_not_count(self):
        for tugs, pilots in ((0, 1), (6, 3)):
            harbour = harbour_with(WIDE, tugs=tugs, pilots=pilots)
            self.assertEqual(least_pairs(harbour, TWO, cost=0), [(4, 2)])

    def test_several_pairs(self):
        # Three light ships at once and then the heavy one, or the heavy one with a light one and then two light ones.
        # (It takes four ships: if three move at once and there are no others, no pair has more tugs than that.)
        harbour = ([9], [1, 2, 3, 4], 6, 3, 3)
        ships = [(0, 4, 0, 1, 3, 1, 0), (0, 3, 0, 1, 1, 1, 0), (0, 2, 0, 1, 1, 1, 0), (0, 1, 0, 1, 1, 1, 0)]
        self.assertEqual(least_pairs(harbour, ships, cost=0), [(6, 4)])
        self.assertEqual(least_pairs(harbour, ships, cost=1), [(3, 3)])
        self.assertEqual(least_pairs(harbour, ships, cost=2), [(3, 3), (4, 2)])
        self.assertEqual(least_pairs(harbour, ships, cost=1000), [(3, 3), (4, 2)])

    def test_against_all_plans(self):
        chance = random.Random(42)
        for _ in range(12):
            harbour, ships = console_case(chance)
            harbour = harbour_with(harbour, last=min(7, harbour[4]))
            costs = {}
            for tugs in range(8):
                for pilots in range(5):
                    costs[tugs, pilots] = least_of_all(harbour_with(harbour, tugs=tugs, pilots=pilots), ships)
            for cost in (0, 4, 15, 1000):
                enough = [pair for pair in costs if number(costs[pair]) <= cost]
                expected = []
                for tugs, pilots in sorted(enough):
                    if (tugs - 1, pilots) not in enough and (tugs, pilots - 1) not in enough:
                        expected.append((tugs, pilots))
                self.assertEqual(least_pairs(harbour, ships, cost=cost), expected, (harbour, ships, cost))


class AddedTest(unittest.TestCase):
    def test_a_ship_alone_adds_what_she_costs(self):
        self.assertEqual(added_by(HARBOUR, SHIPS[:1]), [0])
        self.assertEqual(added_by(HARBOUR, [ship_with(ready=2)]), [4])

    def test_ships_that_cost_each_other_something(self):
        harbour = harbour_with(WIDE, berths=[9])
        # Alone none costs anything; in a row the second one waits for three hours and the third for six.
        self.assertEqual(added_by(harbour, [LIGHT]), [0])
        self.assertEqual(added_by(harbour, [LIGHT, LIGHT]), [3, 3])
        self.assertEqual(added_by(harbour, [LIGHT, ship_with(LIGHT, sea=4)]), [3, 3])
        self.assertEqual(added_by(harbour, [LIGHT, LIGHT, ship_with(LIGHT, sea=5)]), [6, 6, 6])
        self.assertEqual(added_by(harbour, [LIGHT, ship_with(LIGHT, ready=3)]), [0, 0])

    def test_ships_that_cost_each_other_nothing(self):
        self.assertEqual(added_by(WIDE, TWO), [0, 0])

    def test_no_plan(self):
        self.assertIsNone(added_by(WIDE, [ship_with(LIGHT, length=10)]))
        self.assertIsNone(added_by(WIDE, [LIGHT, ship_with(LIGHT, length=10)]))
        self.assertIsNone(added_by(harbour_with(WIDE, berths=[9], last=4), [LIGHT, LIGHT]))

    def test_against_all_plans(self):
        chance = random.Random(43)
        for _ in range(40):
            harbour, ships = console_case(chance)
            least = least_of_all(harbour, ships)
            added = added_by(harbour, ships)
            if least is None:
                self.assertIsNone(added)
                continue
            others = [ships[:name] + ships[name + 1:] for name in range(len(ships))]
            self.assertEqual(added, [least - least_of_all(harbour, rest) for rest in others])
            for ship, more in zip(ships, added):
                self.assertGreaterEqual(more, least_of_all(harbour, [ship]))


class SparedTest(unittest.TestCase):
    def test_a_berth_that_spares_something(self):
        self.assertEqual(spared_by(WIDE, [LIGHT, LIGHT]), [3, 3])
        self.assertEqual(spared_by(WIDE, [LIGHT]), [0, 0])

    def test_a_harbour_with_one_berth(self):
        self.assertEqual(spared_by(HARBOUR, SHIPS), [None])

    def test_a_berth_without_which_there_is_no_plan(self):
        harbour = harbour_with(WIDE, berths=[9, 4])
        self.assertEqual(spared_by(harbour, [ship_with(LIGHT, length=5), LIGHT]), [None, 3])
        self.assertEqual(spared_by(harbour_with(WIDE, berths=[4, 9]), [ship_with(LIGHT, length=5)]), [0, None])
        self.assertEqual(spared_by(harbour_with(WIDE, last=4), [LIGHT, LIGHT]), [None, None])

    def test_no_plan_at_all(self):
        self.assertEqual(spared_by(WIDE, [ship_with(LIGHT, length=10)]), [None, None])
        self.assertEqual(spared_by(harbour_with(WIDE, berths=[9]), [ship_with(LIGHT, length=10)]), [None])

    def test_against_all_plans(self):
        chance = random.Random(44)
        for _ in range(40):
            harbour, ships = console_case(chance)
            least, berths = least_of_all(harbour, ships), harbour[1]
            expected = []
            for berth in range(len(berths)):
                cost = least_of_all(harbour_with(harbour, berths=berths[:berth] + berths[berth + 1:]), ships)
                expected.append(None if cost is None else cost - least)
            self.assertEqual(spared_by(harbour, ships), expected)


class DraughtTest(unittest.TestCase):
    def test_a_draught_between(self):
        harbour = harbour_with(WIDE, depths=[7, 5, 6])
        ship = ship_with(LIGHT, draught=9)
        # With 5 she passes in each hour; with 6 not in the hour 1, and goes out at 2; with 7 she must wait until 3.
        self.assertEqual([greatest_draught(harbour, [ship], 0, cost=cost) for cost in (0, 1, 2, 99)], [6, 7, 7, 7])
        self.assertEqual(greatest_draught(harbour, [ship_with(ship, ready=1)], 0, cost=0), 5)

    def test_her_own_draught_does_not_count(self):
        for draught in (0, 7, 40):
            self.assertEqual(greatest_draught(WIDE, [ship_with(LIGHT, draught=draught)], 0, cost=0), 9)

    def test_the_other_ships_keep_theirs(self):
        ships = [LIGHT, ship_with(LIGHT, draught=9)]
        self.assertEqual([greatest_draught(WIDE, ships, ship, cost=0) for ship in (0, 1)], [9, 9])
        ships = [LIGHT, ship_with(LIGHT, draught=10)]
        self.assertEqual([greatest_draught(WIDE, ships, ship, cost=1000) for ship in (0, 1)], [None, 9])

    def test_a_draught_of_40(self):
        harbour = harbour_with(WIDE, depths=[40])
        self.assertEqual(greatest_draught(harbour, [LIGHT], 0, cost=0), 40)
        # No ship has a greater one, though the harbour is deep enough.
        self.assertEqual(greatest_draught(harbour_with(WIDE, depths=[41]), [LIGHT], 0, cost=0), 40)
        self.assertEqual(greatest_draught(harbour_with(WIDE, depths=[39]), [LIGHT], 0, cost=0), 39)

    def test_a_draught_of_0(self):
        harbour = harbour_with(WIDE, depths=[0])
        self.assertEqual(greatest_draught(harbour, [ship_with(LIGHT, draught=5)], 0, cost=0), 0)
        harbour = harbour_with(WIDE, depths=[9, 0, 0, 0])
        self.assertEqual([greatest_draught(harbour, [LIGHT], 0, cost=cost) for cost in (0, 1, 2)], [0, 0, 9])

    def test_none(self):
        self.assertIsNone(greatest_draught(WIDE, [ship_with(LIGHT, length=10)], 0, cost=1000))
        harbour = harbour_with(WIDE, berths=[9])
        self.assertIsNone(greatest_draught(harbour, [LIGHT, LIGHT], 0, cost=2))
        self.assertEqual(greatest_draught(harbour, [LIGHT, LIGHT], 0, cost=3), 9)

    def test_against_all_plans(self):
        chance = random.Random(45)
        for _ in range(25):
            harbour, ships = console_case(chance)
            harbour = harbour_with(harbour, last=min(7, harbour[4]))
            name = chance.randrange(len(ships))
            others = [[*ships[:name], ship_with(ships[name], draught=n), *ships[name + 1:]] for n in range(11)]
            costs = [least_of_all(harbour, changed) for changed in others]
            for cost in (0, 3, 10, 1000):
                enough = [draught for draught, reached in enumerate(costs) if number(reached) <= cost]
                expected = enough[-1] if enough else None
                self.assertEqual(greatest_draught(harbour, ships, name, cost=cost), expected)


class NeverRisesTest(unittest.TestCase):
    def test_the_least_cost_never_rises(self):
        chance = random.Random(46)
        for _ in range(30):
            harbour, ships = console_case(chance)
            for changed in (
                [harbour_with(harbour, tugs=n) for n in range(10)], [harbour_with(harbour, pilots=n) for n in range(5)],
                [deeper(harbour, n) for n in range(8)],
            ):
                costs = [number(least_cost(other, ships)) for other in changed]
                self.assertEqual(costs, sorted(costs, reverse=True))


if __name__ == "__main__":
    unittest.main()
