"""Points 3, 5 and 6: plans, what is wrong with a list, and what leaves a plan a plan."""

import itertools
import random
import unittest

from tests.helper import (
    HARBOUR, PLAN, SHIPS, harbour_with, model_plans, model_wrong, ship_with, some_harbour, some_ship,
)
from tidewaits.harbours import is_plan, wrong_in

FAR = 10 ** 30
# Deep enough at all hours but 3, 8, 13 and 18; berth 1 is the short one.
WIDE = ([9, 9, 9, 5, 9], [7, 4], 3, 2, 18)
LONG = (2, 7, 6, 2, 1, 1, 1)
SHORT = (0, 4, 6, 1, 2, 1, 1)
LIGHT = (0, 1, 0, 1, 0, 1, 1)


class WrongTest(unittest.TestCase):
    def check(self, expected, ships, plan, harbour=WIDE):
        self.assertEqual(wrong_in(harbour, ships, plan), expected, (harbour, ships, plan))
        self.assertIs(is_plan(harbour, ships, plan), expected is None)


class AloneTest(WrongTest):
    def test_early(self):
        self.check(None, [LONG], [(2, 0, 5)])
        self.check(("early", 0), [LONG], [(1, 0, 5)])
        self.check(("early", 0), [LONG], [(2, 0, 4)])
        self.check(("early", 0), [LONG], [(4, 0, 6)])
        self.check(None, [LONG], [(4, 0, 7)])

    def test_early_by_numbers_of_any_size(self):
        for came, left in ((-1, 9), (-FAR, 9), (9, -1), (9, 9), (9, -FAR), (FAR, 9), (FAR, FAR), (FAR, FAR + 2)):
            self.check(("early", 0), [LONG], [(came, 0, left)])

    def test_the_stay_of_each_length(self):
        for stay in (1, 2, 3, 4):
            ship = ship_with(LIGHT, stay=stay)
            self.check(None, [ship], [(0, 1, stay + 1)])
            self.check(("early", 0), [ship], [(0, 1, stay)])

    def test_late(self):
        last = harbour_with(WIDE, last=17)
        self.check(None, [LONG], [(2, 0, 17)], last)
        self.check(None, [LONG], [(14, 0, 17)], last)
        self.check(("late", 0), [LONG], [(2, 0, 18)], last)
        self.check(("late", 0), [LONG], [(15, 0, 19)])
        for left in (21, 100, FAR):
            self.check(("late", 0), [LONG], [(2, 0, left)])
        self.check(("late", 0), [LONG], [(FAR, 0, FAR + 3)])

    def test_berth(self):
        self.check(None, [SHORT], [(0, 0, 2)])
        self.check(None, [SHORT], [(0, 1, 2)])
        for berth in (-1, -2, -3, 2, 3, -FAR, FAR):
            self.check(("berth", 0), [SHORT], [(0, berth, 2)])
        self.check(("berth", 0), [ship_with(SHORT, length=5)], [(0, 1, 2)])
        self.check(None, [LONG], [(2, 0, 5)])
        self.check(("berth", 0), [ship_with(LONG, length=8)], [(2, 0, 5)])
        self.check(("berth", 0), [LIGHT], [(0, 1, 2)], harbour_with(WIDE, berths=[7]))

    def test_depth(self):
        self.check(("depth", 0), [LONG], [(3, 0, 6)])
        self.check(("depth", 0), [LONG], [(4, 0, 8)])
        self.check(("depth", 0), [LONG], [(3, 0, 8)])
        self.check(None, [ship_with(LONG, draught=5)], [(3, 0, 8)])
        self.check(None, [ship_with(LONG, draught=9)], [(2, 0, 5)])
        self.check(("depth", 0), [ship_with(LONG, draught=10)], [(2, 0, 5)])

    def test_the_depth_while_she_lies_does_not_matter(self):
        ship = ship_with(LIGHT, draught=9)
        self.check(None, [ship], [(0, 0, 5)], harbour_with(WIDE, depths=[9, 0, 0, 0, 0]))

    def test_tugs_of_one_ship(self):
        self.check(None, [ship_with(LONG, tugs=3)], [(2, 0, 5)])
        self.check(("tugs", 2), [LONG], [(2, 0, 5)], harbour_with(WIDE, tugs=0))
        self.check(("tugs", 7), [ship_with(LONG, tugs=3)], [(7, 0, 15)], harbour_with(WIDE, tugs=2))

    def test_one_pilot_is_enough_for_one_ship(self):
        self.check(None, [LONG], [(2, 0, 5)], harbour_with(WIDE, pilots=1))


class TogetherTest(WrongTest):
    def test_taken_up_to_the_hour_of_going_out(self):
        self.check(None, [LONG, LIGHT], [(2, 0, 6), (7, 0, 9)])
        self.check(("taken", 1), [LONG, LIGHT], [(2, 0, 6), (6, 0, 9)])
        self.check(("taken", 1), [LONG, LIGHT], [(2, 0, 6), (5, 0, 9)])

    def test_taken_from_the_hour_of_coming_in(self):
        self.check(None, [LONG, LIGHT], [(5, 0, 9), (1, 0, 4)])
        self.check(("taken", 1), [LONG, LIGHT], [(5, 0, 9), (1, 0, 5)])
        self.check(("taken", 1), [LONG, LIGHT], [(5, 0, 9), (1, 0, 6)])

    def test_taken_within_and_around(self):
        self.check(("taken", 1), [LONG, LIGHT], [(2, 0, 12), (5, 0, 7)])
        self.check(("taken", 1), [LONG, LIGHT], [(5, 0, 9), (1, 0, 17)])
        self.check(("taken", 1), [LONG, LIGHT], [(5, 0, 9), (5, 0, 9)])

    def test_two_berths_in_the_same_hours(self):
        self.check(None, [LONG, LIGHT], [(5, 0, 9), (5, 1, 9)])

    def test_taken_among_three(self):
        ships = [LIGHT, LIGHT, LIGHT]
        self.check(("taken", 2), ships, [(0, 0, 2), (3, 0, 5), (5, 0, 7)])
        self.check(("taken", 2), ships, [(0, 0, 2), (3, 0, 5), (1, 0, 4)])
        self.check(("taken", 2), ships, [(4, 0, 6), (7, 0, 9), (2, 0, 4)])
        self.check(("taken", 1), ships, [(0, 0, 2), (2, 0, 4), (4, 0, 6)])
        self.check(("taken", 2), ships, [(0, 0, 2), (1, 1, 3), (3, 1, 5)])
        self.check(None, ships, [(0, 0, 2), (3, 0, 5), (6, 0, 8)])

    def test_the_hour_of_tugs(self):
        self.check(None, [LONG, SHORT], [(2, 0, 5), (2, 1, 5)])
        heavy = [ship_with(LONG, tugs=2), SHORT]
        self.check(("tugs", 2), heavy, [(2, 0, 5), (2, 1, 5)])
        self.check(("tugs", 5), heavy, [(2, 0, 5), (1, 1, 5)])
        self.check(("tugs", 5), heavy, [(2, 0, 5), (5, 1, 7)])
        self.check(("tugs", 5), heavy, [(5, 0, 9), (2, 1, 5)])
        self.check(None, heavy, [(5, 0, 9), (2, 1, 6)])

    def test_the_hour_of_pilots(self):
        single = harbour_with(WIDE, pilots=1)
        self.check(("pilots", 2), [LONG, LIGHT], [(2, 0, 5), (2, 1, 5)], single)
        self.check(("pilots", 5), [LONG, LIGHT], [(2, 0, 5), (1, 1, 5)], single)
        self.check(("pilots", 5), [LONG, LIGHT], [(2, 0, 5), (5, 1, 7)], single)
        self.check(("pilots", 5), [LONG, LIGHT], [(5, 0, 9), (0, 1, 5)], single)
        self.check(None, [LONG, LIGHT], [(5, 0, 9), (0, 1, 6)], single)

    def test_tugs_and_pilots_of_three(self):
        ships = [ship_with(LIGHT, tugs=1)] * 3
        plan = [(0, 0, 2), (4, 0, 6), (2, 1, 4)]
        self.check(None, ships, plan, harbour_with(WIDE, tugs=2, pilots=2))
        self.check(("tugs", 2), ships, plan, harbour_with(WIDE, tugs=1, pilots=2))
        self.check(("pilots", 2), ships, plan, harbour_with(WIDE, tugs=2, pilots=1))

    def test_tugs_go_ahead_of_pilots(self):
        ships = [SHORT, SHORT]
        harbour = harbour_with(WIDE, tugs=3, pilots=1)
        self.check(("tugs", 0), ships, [(0, 0, 2), (0, 1, 2)], harbour)
        light_first = [LIGHT, SHORT, SHORT]
        plan = [(0, 0, 2), (0, 1, 5), (9, 1, 12)]
        self.check(("pilots", 0), light_first, plan, harbour)
        plan = [(0, 0, 2), (0, 1, 5), (5, 0, 9)]
        self.check(("tugs", 5), light_first, plan, harbour)

    def test_the_least_hour_not_the_least_ship(self):
        ships = [ship_with(LIGHT, tugs=2)] * 3
        plan = [(9, 0, 12), (12, 1, 14), (0, 0, 8)]
        self.check(("tugs", 12), ships, plan)
        plan = [(9, 0, 12), (12, 1, 14), (0, 1, 9)]
        self.check(("tugs", 9), ships, plan)


class OrderTest(WrongTest):
    """Two things that are wrong: the first one in the order is told."""

    def test_of_one_ship(self):
        self.check(("early", 0), [LONG], [(1, 0, 19)])
        self.check(("early", 0), [LONG], [(17, 0, 19)])
        self.check(("early", 0), [LONG], [(1, 1, 5)])
        self.check(("early", 0), [LONG], [(1, 0, 3)])
        self.check(("late", 0), [LONG], [(2, 1, 19)])
        self.check(("late", 0), [LONG], [(3, 0, 19)])
        self.check(("late", 0), [LONG], [(2, -1, FAR)])
        self.check(("berth", 0), [LONG], [(3, 1, 6)])
        self.check(("berth", 0), [LONG], [(3, 2, 6)])
        self.check(("berth", 0), [LONG], [(2, 1, 5)], harbour_with(WIDE, tugs=0))
        self.check(("depth", 0), [LONG], [(3, 0, 6)], harbour_with(WIDE, tugs=0))

    def test_taken_goes_behind_all_else_of_a_ship(self):
        self.check(("early", 1), [LIGHT, LONG], [(0, 0, 9), (1, 0, 5)])
        self.check(("late", 1), [LIGHT, LONG], [(0, 0, 9), (2, 0, 19)])
        self.check(("berth", 1), [LIGHT, LONG], [(0, 1, 9), (2, 1, 5)])
        self.check(("depth", 1), [LIGHT, LONG], [(0, 0, 9), (3, 0, 6)])
        self.check(("taken", 1), [LIGHT, LONG], [(0, 0, 9), (2, 0, 6)])

    def test_a_lesser_ship_goes_first(self):
        self.check(("depth", 0), [LONG, LIGHT], [(3, 0, 6), (-1, 1, 5)])
        self.check(("berth", 0), [LONG, LIGHT], [(2, 1, 5), (0, 0, 1)])
        self.check(("late", 0), [LONG, LIGHT], [(2, 0, 19), (0, 0, 1)])
        self.check(("early", 0), [LONG, LIGHT], [(2, 0, 4), (0, 5, 19)])
        self.check(("taken", 1), [LONG, LIGHT, LIGHT], [(2, 0, 6), (4, 0, 9), (0, 0, 1)])
        self.check(("early", 1), [LONG, LIGHT, LIGHT], [(2, 0, 6), (4, 0, 5), (0, 0, 9)])

    def test_all_together_goes_behind_each_ship(self):
        heavy = [ship_with(LONG, tugs=3), ship_with(LIGHT, tugs=3), LIGHT]
        plan = [(2, 0, 6), (2, 1, 6)]
        self.check(("tugs", 2), heavy, plan + [(7, 0, 9)])
        self.check(("early", 2), heavy, plan + [(7, 0, 8)])
        self.check(("late", 2), heavy, plan + [(7, 0, 19)])
        self.check(("berth", 2), heavy, plan + [(7, 2, 9)])
        self.check(("depth", 2), heavy[:2] + [ship_with(LIGHT, draught=6)], plan + [(8, 0, 10)])
        self.check(("taken", 2), heavy, plan + [(6, 0, 9)])
        single = harbour_with(WIDE, tugs=6, pilots=1)
        self.check(("pilots", 2), heavy, plan + [(7, 0, 9)], single)
        self.check(("taken", 2), heavy, plan + [(6, 0, 9)], single)


class ModelTest(WrongTest):
    def test_all_lists_for_a_small_harbour(self):
        harbour = ([3, 1, 2], [2, 1], 1, 1, 5)
        ships = [(1, 2, 2, 1, 1, 1, 1), (0, 1, 3, 1, 1, 1, 1)]
        rows = list(itertools.product(range(-1, 7), range(-1, 3), range(-1, 7)))
        for plan in itertools.product(rows, rows):
            self.assertEqual(wrong_in(harbour, ships, list(plan)), model_wrong(harbour, ships, list(plan)), plan)

    def test_lists_for_three_ships(self):
        chance = random.Random(3)
        words = {}
        for _ in range(20000):
            harbour = ([9] * 4 + [chance.randint(0, 9)], [9, chance.randint(5, 9)], 3, chance.randint(1, 3), 30)
            ships = [some_ship(chance, latest_ready=4) for _ in range(3)]
            ships = [ship_with(ship, draught=ship[2] % 8, tugs=ship[4] % 3) for ship in ships]
            plan = []
            for ready, length, draught, stay, tugs, sea, lie in ships:
                came = ready + chance.choice([0, 0, 1, 2, 5, 8, -1])
                plan.append((came, chance.randint(0, 1), came + stay + 1 + chance.randint(0, 3)))
            expected = model_wrong(harbour, ships, plan)
            self.check(expected, ships, plan, harbour)
            words[expected and expected[0]] = True
        self.assertEqual(set(words), {None, "early", "berth", "depth", "taken", "tugs", "pilots"})


class GreaterTest(unittest.TestCase):
    """Point 6."""

    HARBOUR = ([3, 1, 2], [2, 1], 2, 2, 9)
    SHIPS = [(1, 2, 2, 1, 1, 1, 1), (0, 1, 3, 1, 1, 1, 1), (2, 1, 1, 2, 1, 1, 1)]

    def greater(self):
        depths, berths, tugs, pilots, last = self.HARBOUR
        yield from [harbour_with(self.HARBOUR, tugs=more) for more in range(tugs, 7)]
        yield harbour_with(self.HARBOUR, pilots=3)
        yield from [harbour_with(self.HARBOUR, berths=more) for more in ([3, 1], [2, 2], [9, 9])]
        yield from [harbour_with(self.HARBOUR, last=more) for more in (10, 11, 40)]
        yield from [harbour_with(self.HARBOUR, depths=[depth + more for depth in depths]) for more in (1, 2, 37)]
        yield ([40, 38, 39], [9, 9], 6, 3, 40)

    def test_plans_stay_plans_in_greater_harbours(self):
        plans = model_plans(self.HARBOUR, self.SHIPS)
        self.assertEqual(len(plans), 198)
        harbours = list(self.greater())
        for plan in plans:
            self.assertTrue(is_plan(self.HARBOUR, self.SHIPS, plan))
            for harbour in harbours:
                self.assertTrue(is_plan(harbour, self.SHIPS, plan), (harbour, plan))

    def test_plans_stay_plans_without_a_ship(self):
        for plan in model_plans(self.HARBOUR, self.SHIPS):
            for name in range(3):
                others = self.SHIPS[:name] + self.SHIPS[name + 1:]
                self.assertTrue(is_plan(self.HARBOUR, others, plan[:name] + plan[name + 1:]), (name, plan))

    def test_a_lesser_harbour_can_make_it_none(self):
        self.assertTrue(is_plan(HARBOUR, SHIPS, PLAN))
        self.assertEqual(wrong_in(harbour_with(tugs=1), SHIPS, PLAN), ("tugs", 4))
        self.assertEqual(wrong_in(harbour_with(berths=[4]), SHIPS, PLAN), ("berth", 0))
        self.assertEqual(wrong_in(harbour_with(last=7), SHIPS, PLAN), ("late", 1))
        self.assertEqual(wrong_in(harbour_with(depths=[7, 5, 2, 5]), SHIPS, PLAN), ("depth", 0))


class ExtremesTest(unittest.TestCase):
    def test_lists_for_any_harbour(self):
        chance = random.Random(5)
        for _ in range(3000):
            harbour = some_harbour(chance)
            ships = [some_ship(chance) for _ in range(chance.randint(1, 3))]
            numbers = [-FAR, -1, 0, 1, 2, 5, 9, 20, 40, 41, FAR]
            plan = [(chance.choice(numbers), chance.randint(-1, 2), chance.choice(numbers)) for _ in ships]
            self.assertEqual(wrong_in(harbour, ships, plan), model_wrong(harbour, ships, plan))


if __name__ == "__main__":
    unittest.main()
