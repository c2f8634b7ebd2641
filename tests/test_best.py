"""Points 20 and 21: rests, least costs, best plans and their numbers, with promises and without."""

import random
import unittest

from tests.helper import (
    HARBOUR, PLAN, SHIPS, harbour_with, model_cost, model_plans, model_rest, ship_with, small_case, some_state,
)
from tidewaits.best import (
    after_moves, beginning, best_moves, best_plan, cost_in, count_best, count_plans, least_cost, moves_in, rest_of,
)
from tidewaits.harbours import is_plan

SEA = (-1, 0)
GONE = (-2, 0)
ALWAYS = ([9], [5], 2, 1, 4)
# She can go out from hour 2 on, and there are five hours: six plans.
FREE = (0, 5, 9, 1, 0, 3, 4)


def answers(harbour, ships, latest=None):
    """What is told of a harbour and ships: least cost, first best plan, number of plans and of best plans."""
    return (
        least_cost(harbour, ships, latest=latest), best_plan(harbour, ships, latest=latest),
        count_plans(harbour, ships, latest=latest), count_best(harbour, ships, latest=latest),
    )


def model_answers(harbour, ships, latest=None):
    plans = sorted(model_plans(harbour, ships))
    for name, hour in enumerate(latest or []):
        plans = [plan for plan in plans if hour is None or plan[name][2] <= hour]
    costs = [model_cost(ships, plan) for plan in plans]
    if not plans:
        return (None, None, 0, 0)
    least = min(costs)
    return (least, plans[costs.index(least)], len(plans), costs.count(least))


def some_latest(chance, harbour, ships):
    return [chance.choice([None, chance.randint(2, harbour[4]), chance.randint(0, 100)]) for _ in ships]


class RestTest(unittest.TestCase):
    def check(self, expected, harbour, ships, state, latest=None):
        self.assertEqual(rest_of(harbour, ships, state, latest=latest), expected)
        self.assertEqual(model_rest(harbour, ships, state, latest), expected)

    def test_an_end(self):
        for hour in (0, 3, 4, 5):
            self.check(0, ALWAYS, [FREE], (hour, (GONE,)))
            self.check(0, ALWAYS, [FREE], (hour, (GONE,)), [0])

    def test_behind_the_last_hour(self):
        for place in (SEA, (0, 0), (0, 1)):
            self.check(None, ALWAYS, [FREE], (5, (place,)))

    def test_at_the_berth(self):
        self.check(0, ALWAYS, [FREE], (4, ((0, 0),)))
        self.check(None, ALWAYS, [FREE], (4, ((0, 1),)))
        self.check(0, ALWAYS, [FREE], (3, ((0, 1),)))
        self.check(4, ([0, 9], [5], 2, 1, 4), [FREE], (2, ((0, 0),)))
        self.check(0, ([0, 9], [5], 2, 1, 4), [FREE], (3, ((0, 0),)))
        self.check(None, ([0, 9], [5], 2, 1, 4), [FREE], (4, ((0, 0),)))

    def test_at_sea(self):
        self.check(0, ALWAYS, [FREE], (0, (SEA,)))
        self.check(0, ALWAYS, [FREE], (2, (SEA,)))
        self.check(None, ALWAYS, [FREE], (3, (SEA,)))
        self.check(3, ([0, 9], [5], 2, 1, 4), [FREE], (0, (SEA,)))
        self.check(None, ([0, 9], [5], 2, 1, 4), [FREE], (2, (SEA,)))

    def test_states_that_cannot_be_come_to(self):
        two = [FREE, ship_with(FREE, length=6)]
        self.check(0, ALWAYS, two, (0, (GONE, (0, 1))))
        self.check(None, ALWAYS, two, (0, (GONE, SEA)))

    def test_promises(self):
        self.check(0, ALWAYS, [FREE], (0, (SEA,)), [2])
        self.check(None, ALWAYS, [FREE], (0, (SEA,)), [1])
        self.check(None, ALWAYS, [FREE], (3, ((0, 0),)), [2])
        self.check(0, ALWAYS, [FREE], (2, ((0, 0),)), [2])

    def test_any_states_by_the_model(self):
        chance = random.Random(20)
        found = []
        for _ in range(1000):
            harbour, ships = small_case(chance)
            hour, places = some_state(chance, harbour, ships)
            state = (max(hour, harbour[4] - 4), places)
            latest = chance.choice([None, some_latest(chance, harbour, ships)])
            rest = model_rest(harbour, ships, state, latest)
            self.assertEqual(rest_of(harbour, ships, state, latest=latest), rest, (harbour, ships, state, latest))
            found.append(rest)
        self.assertGreater(found.count(None), 50)
        self.assertGreater(len([rest for rest in found if rest]), 50)

    def test_best_moves_reach_the_rest(self):
        chance = random.Random(21)
        for _ in range(300):
            harbour, ships = small_case(chance)
            state = some_state(chance, harbour, ships)
            latest = chance.choice([None, some_latest(chance, harbour, ships)])
            rest = rest_of(harbour, ships, state, latest=latest)
            expected = []
            for moves in moves_in(harbour, ships, state, latest=latest):
                behind = rest_of(harbour, ships, after_moves(ships, state, moves), latest=latest)
                if None not in (rest, behind) and cost_in(ships, state, moves) + behind == rest:
                    expected.append(moves)
            self.assertEqual(best_moves(harbour, ships, state, latest=latest), expected)


class BestMovesTest(unittest.TestCase):
    def test_several_best_moves(self):
        lazy = ship_with(FREE, sea=0)
        self.assertEqual(best_moves(ALWAYS, [lazy], (0, (SEA,))), [(), ((0, 0),)])
        self.assertEqual(best_moves(ALWAYS, [lazy], (2, (SEA,))), [((0, 0),)])
        self.assertEqual(best_moves(ALWAYS, [FREE], (0, (SEA,))), [((0, 0),)])
        self.assertEqual(best_moves(ALWAYS, [FREE], (2, ((0, 0),))), [((0, -1),)])
        self.assertEqual(best_moves(ALWAYS, [FREE], (2, ((0, 1),))), [()])

    def test_no_rest(self):
        self.assertEqual(best_moves(ALWAYS, [FREE], (3, (SEA,))), [])
        self.assertEqual(best_moves(ALWAYS, [FREE], (5, (SEA,))), [])
        self.assertEqual(best_moves(ALWAYS, [FREE], (0, (SEA,)), latest=[1]), [])

    def test_an_end(self):
        self.assertEqual(best_moves(ALWAYS, [FREE], (0, (GONE,))), [])
        self.assertEqual(best_moves(ALWAYS, [FREE], (5, (GONE,))), [])

    def test_promises_change_the_best_moves(self):
        dear = ship_with(FREE, sea=0, lie=9)
        harbour = ([9, 9, 0, 9], [5], 2, 1, 9)
        self.assertEqual(best_moves(harbour, [dear], (0, (SEA,))), [()])
        self.assertEqual(best_moves(harbour, [dear], (0, (SEA,)), latest=[2]), [])
        self.assertEqual(best_moves(harbour, [ship_with(dear, lie=0)], (0, (SEA,)), latest=[3]), [(), ((0, 0),)])


class BestPlanTest(unittest.TestCase):
    def test_one_ship(self):
        self.assertEqual(answers(ALWAYS, [FREE]), (0, [(0, 0, 2)], 6, 1))

    def test_two_ships(self):
        self.assertEqual(answers(HARBOUR, SHIPS), model_answers(HARBOUR, SHIPS))
        self.assertEqual((least_cost(HARBOUR, SHIPS), best_plan(HARBOUR, SHIPS)), (10, PLAN))

    def test_the_first_of_several_best_plans(self):
        idle = ship_with(FREE, sea=0, lie=0)
        self.assertEqual(answers(ALWAYS, [idle]), (0, [(0, 0, 2)], 6, 6))
        self.assertEqual(answers(harbour_with(ALWAYS, berths=[5, 5]), [FREE]), (0, [(0, 0, 2)], 12, 2))
        # Her first plan would leave no berth for the other one.
        harbour = ([9], [5], 2, 3, 6)
        plans = model_plans(harbour, [idle, idle])
        self.assertEqual(answers(harbour, [idle, idle]), (0, [(0, 0, 2), (3, 0, 5)], len(plans), len(plans)))
        waits = ship_with(FREE, sea=9)
        self.assertEqual(best_plan(harbour, [idle, waits]), [(3, 0, 5), (0, 0, 2)])

    def test_the_first_ship_counts_first(self):
        # The two berths are the same, and so are the ships: the first ship has the first berth.
        harbour = ([9], [5, 5], 6, 3, 4)
        self.assertEqual(answers(harbour, [FREE, FREE])[1], [(0, 0, 2), (0, 1, 2)])
        # With one pilot, ship 1 could come in at hour 0 and ship 0 an hour later, which costs the same.
        self.assertEqual(answers(harbour_with(harbour, pilots=1), [FREE, FREE])[:2], (3, [(0, 0, 2), (1, 1, 3)]))

    def test_a_plan_that_waits_first_can_be_the_first_one(self):
        # Going out early is first, though what is done ahead of it is the same.
        lazy = ship_with(FREE, lie=0)
        self.assertEqual(answers(([9], [5], 2, 1, 6), [lazy]), (0, [(0, 0, 2)], 15, 5))

    def test_no_plan(self):
        for harbour, ships in (
            (ALWAYS, [ship_with(FREE, length=6)]), (ALWAYS, [ship_with(FREE, draught=10)]),
            (ALWAYS, [ship_with(FREE, tugs=3)]), (ALWAYS, [ship_with(FREE, ready=3)]),
            (ALWAYS, [ship_with(FREE, stay=4)]), (ALWAYS, [FREE, FREE]),
            (ALWAYS, [FREE, ship_with(FREE, ready=20)]),
        ):
            self.assertEqual(answers(harbour, ships), (None, None, 0, 0))

    def test_the_least_cost_is_the_rest_of_the_beginning(self):
        self.assertEqual(rest_of(HARBOUR, SHIPS, beginning(SHIPS)), 10)
        self.assertEqual(rest_of(HARBOUR, SHIPS, beginning(SHIPS), latest=[None, 7]), None)

    def test_kinds_of_values(self):
        plan = best_plan(HARBOUR, SHIPS)
        self.assertEqual([type(plan), type(plan[0]), type(plan[0][0])], [list, tuple, int])
        self.assertIs(type(least_cost(HARBOUR, SHIPS)), int)
        self.assertIs(type(count_plans(HARBOUR, SHIPS)), int)
        self.assertIs(type(count_best(ALWAYS, [FREE, FREE])), int)

    def test_answers_by_all_plans(self):
        chance = random.Random(22)
        with_plan = []
        for _ in range(250):
            harbour, ships = small_case(chance)
            found = answers(harbour, ships)
            self.assertEqual(found, model_answers(harbour, ships), (harbour, ships))
            if found[1] is not None:
                self.assertTrue(is_plan(harbour, ships, found[1]))
                with_plan.append(found)
        self.assertGreater(len(with_plan), 80)
        self.assertGreater(len([found for found in with_plan if 1 < found[3] < found[2]]), 20)

    def test_answers_for_three_ships(self):
        chance = random.Random(23)
        with_plan = 0
        for _ in range(40):
            harbour, ships = small_case(chance, last=7, count=3)
            found = answers(harbour, ships)
            self.assertEqual(found, model_answers(harbour, ships), (harbour, ships))
            with_plan += found[1] is not None
        self.assertGreater(with_plan, 3)


class PromisesTest(unittest.TestCase):
    def check(self, expected, latest, harbour=HARBOUR, ships=SHIPS):
        self.assertEqual(answers(harbour, ships, latest), expected)
        self.assertEqual(model_answers(harbour, ships, latest), expected)

    def test_nothing_is_promised(self):
        free = model_answers(HARBOUR, SHIPS)
        for latest in (None, [None, None], [20, 20], [100, None], [None, 100], [100, 100]):
            self.check(free, latest)

    def test_some_plans_are_forbidden(self):
        # Ship 1 can move at the hours 4, 8, 12, 16 and 20 only.
        self.check((10, PLAN, 1, 1), [3, 8])
        self.check((10, PLAN, 3, 1), [3, 12])
        self.check((10, PLAN, 55, 1), [None, 12])

    def test_all_plans_are_forbidden(self):
        for latest in ([None, 7], [2, None], [0, 0], [0, 100], [100, 0]):
            self.check((None, None, 0, 0), latest)

    def test_a_promise_can_cost(self):
        harbour, ships = ([9], [5], 2, 1, 8), [FREE, ship_with(FREE, sea=1)]
        self.check((3, [(0, 0, 2), (3, 0, 5)], 70, 1), None, harbour, ships)
        self.check((9, [(3, 0, 5), (0, 0, 2)], 22, 1), [None, 3], harbour, ships)

    def test_the_hour_itself_keeps_the_promise(self):
        self.check((0, [(0, 0, 2)], 1, 1), [2], ALWAYS, [FREE])
        self.check((None, None, 0, 0), [1], ALWAYS, [FREE])
        self.check((0, [(0, 0, 2)], 3, 1), [3], ALWAYS, [FREE])

    def test_answers_by_all_plans(self):
        chance = random.Random(24)
        changed = 0
        for _ in range(500):
            harbour, ships = small_case(chance)
            latest = some_latest(chance, harbour, ships)
            found = answers(harbour, ships, latest)
            self.assertEqual(found, model_answers(harbour, ships, latest), (harbour, ships, latest))
            changed += found != answers(harbour, ships)
        self.assertGreater(changed, 50)


if __name__ == "__main__":
    unittest.main()
