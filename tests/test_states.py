"""Points 18 and 19: states, the moves that can be made in them, their costs, and the states behind them."""

import itertools
import random
import unittest

from tests.helper import (
    HARBOUR, PLAN, SHIPS, harbour_with, model_after, model_cost_in, model_hour_cost, model_moves, model_plans,
    ship_with, small_case, some_harbour, some_ship, some_state,
)
from tidewaits.best import after_moves, beginning, cost_in, moves_in
from tidewaits.harbours import cost_of, hour_costs

# Deep enough at all hours but 3, 8, 13 and 18; berth 1 is the short one.
WIDE = ([9, 9, 9, 5, 9], [7, 4], 3, 2, 18)
LONG = (2, 7, 6, 2, 1, 3, 5)
SHORT = (0, 4, 6, 1, 2, 1, 1)
LIGHT = (0, 1, 0, 1, 0, 1, 1)
SEA = (-1, 0)
GONE = (-2, 0)


def rows_of_moves(harbour, ships, state, known=()):
    """All rows of tuples (hour, moves) from the state to an end."""
    if set(state[1]) == {GONE}:
        return [known]
    found = []
    for moves in moves_in(harbour, ships, state):
        behind = after_moves(ships, state, moves)
        found.extend(rows_of_moves(harbour, ships, behind, known + ((state[0], moves),)))
    return found


def plan_of_row(ships, row):
    """The plan with these moves."""
    plan = [()] * len(ships)
    for hour, moves in row:
        for ship, berth in moves:
            plan[ship] += (hour,) if berth == -1 else (hour, berth)
    return plan


class BeginningTest(unittest.TestCase):
    def test_no_ship_has_come_in(self):
        self.assertEqual(beginning([LONG]), (0, ((-1, 0),)))
        self.assertEqual(beginning([LONG, SHORT]), (0, ((-1, 0), (-1, 0))))
        self.assertEqual(beginning([LONG, SHORT, LIGHT]), (0, ((-1, 0), (-1, 0), (-1, 0))))

    def test_kinds_of_values(self):
        hour, places = beginning(SHIPS)
        self.assertEqual([type(hour), type(places), type(places[0])], [int, tuple, tuple])
        moves = moves_in(HARBOUR, SHIPS, (3, ((0, 0), SEA)))
        self.assertEqual([type(moves), type(moves[1]), type(moves[1][0])], [list, tuple, tuple])
        behind = after_moves(SHIPS, (3, ((0, 0), SEA)), ((0, -1),))
        self.assertEqual([type(behind), type(behind[1]), type(behind[1][0])], [tuple, tuple, tuple])


class MovesTest(unittest.TestCase):
    def check(self, expected, ships, hour, places, harbour=WIDE, **more):
        self.assertEqual(moves_in(harbour, ships, (hour, tuple(places)), **more), expected)

    def test_a_ship_comes_in_to_each_berth_that_is_long_enough(self):
        self.check([(), ((0, 0),)], [LONG], 2, [SEA])
        self.check([(), ((0, 0),), ((0, 1),)], [SHORT], 2, [SEA])
        self.check([(), ((0, 0),)], [ship_with(SHORT, length=5)], 2, [SEA])
        self.check([()], [ship_with(LONG, length=8)], 2, [SEA])

    def test_a_ship_that_is_not_ready_waits(self):
        self.check([()], [LONG], 1, [SEA])
        self.check([()], [LONG], 0, [SEA])
        self.check([(), ((0, 0),)], [LONG], 9, [SEA])

    def test_a_ship_goes_out_when_nothing_of_her_stay_is_left(self):
        self.check([(), ((0, -1),)], [LONG], 5, [(0, 0)])
        self.check([()], [LONG], 5, [(0, 1)])
        self.check([()], [LONG], 5, [(0, 2)])
        self.check([(), ((0, -1),)], [SHORT], 5, [(1, 0)])

    def test_a_ship_that_is_in_or_gone_does_not_come_in(self):
        self.check([(), ((1, 0),), ((1, 1),)], [LIGHT, LIGHT], 5, [GONE, SEA])
        self.check([(), ((1, 1),)], [LIGHT, LIGHT], 5, [(0, 1), SEA])

    def test_a_berth_that_is_given_up_in_the_hour_is_taken(self):
        self.check([(), ((0, -1),), ((0, -1), (1, 1)), ((1, 1),)], [LIGHT, LIGHT], 5, [(0, 0), SEA])
        self.check([(), ((0, -1),)], [LIGHT, LIGHT], 5, [(0, 0), SEA], harbour_with(WIDE, berths=[7]))

    def test_no_two_ships_come_to_one_berth(self):
        both = [((0, 0), (1, 1)), ((0, 1), (1, 0))]
        alone = [((0, 0),), ((0, 1),), ((1, 0),), ((1, 1),)]
        self.check(sorted([()] + both + alone), [LIGHT, LIGHT], 0, [SEA, SEA])
        self.check([(), ((0, 0),), ((1, 0),)], [LIGHT, LIGHT], 0, [SEA, SEA], harbour_with(WIDE, berths=[7]))

    def test_two_ships_go_out_together(self):
        self.check([(), ((0, -1),), ((0, -1), (1, -1)), ((1, -1),)], [LIGHT, LIGHT], 4, [(1, 0), (0, 0)])

    def test_the_depth(self):
        for hour, places in itertools.product((3, 8, 13, 18), ([SEA], [(0, 0)])):
            self.check([()], [LONG], hour, places)
            self.assertEqual(len(moves_in(WIDE, [ship_with(LONG, draught=5)], (hour, tuple(places)))), 2)
        self.check([(), ((0, -1),)], [ship_with(LONG, draught=9)], 4, [(0, 0)])
        self.check([()], [ship_with(LONG, draught=10)], 4, [(0, 0)])

    def test_the_tugs(self):
        two = [ship_with(LIGHT, tugs=1), ship_with(LIGHT, tugs=2)]
        places = [(0, 0), (1, 0)]
        self.check([(), ((0, -1),), ((0, -1), (1, -1)), ((1, -1),)], two, 4, places)
        self.check([(), ((0, -1),), ((1, -1),)], two, 4, places, harbour_with(WIDE, tugs=2))
        self.check([(), ((0, -1),)], two, 4, places, harbour_with(WIDE, tugs=1))
        self.check([()], two, 4, places, harbour_with(WIDE, tugs=0))

    def test_the_pilots(self):
        three = [LIGHT, LIGHT, LIGHT]
        places = [(0, 0), (1, 0), SEA]
        self.check([(), ((0, -1),), ((1, -1),)], three, 4, places, harbour_with(WIDE, pilots=1))
        self.check([(), ((0, -1),), ((0, -1), (1, -1)), ((1, -1),)], three, 4, places)
        self.check([(), ((0, 1),), ((2, 1),)], three, 4, [SEA, (0, 1), SEA])
        pairs = [moves for moves in moves_in(WIDE, three, beginning(three)) if len(moves) == 2]
        self.assertEqual(len(pairs), 6)

    def test_three_ships_move_with_three_pilots(self):
        three = [LIGHT, LIGHT, LIGHT]
        moves = moves_in(harbour_with(WIDE, pilots=3), three, (4, ((0, 0), SEA, GONE)))
        self.assertEqual(moves, [(), ((0, -1),), ((0, -1), (1, 1)), ((1, 1),)])

    def test_the_hour_behind_the_last_one(self):
        self.check([(), ((0, -1),)], [LIGHT], 18, [(0, 0)])
        self.check([()], [LIGHT], 18, [(0, 1)])
        for places in ([(0, 0)], [(0, 1)], [SEA], [GONE]):
            self.check([], [LIGHT], 19, places)

    def test_an_end(self):
        for hour in (0, 5, 18, 19):
            self.check([], [LIGHT, LONG], hour, [GONE, GONE])
        self.check([()], [LIGHT, LONG], 0, [GONE, SEA])

    def test_states_that_cannot_be_come_to(self):
        # At a berth shorter than she is, gone or in ahead of her hour.
        self.check([(), ((0, -1),)], [LONG], 5, [(1, 0)])
        self.check([(), ((0, -1),)], [LONG], 0, [(0, 0)])
        self.check([()], [ship_with(LONG, stay=4)], 0, [(1, 4)])
        self.check([(), ((1, 0),), ((1, 1),)], [LONG, SHORT], 0, [GONE, SEA])

    def test_promises(self):
        places = [(0, 0), (1, 0)]
        all_moves = [(), ((0, -1),), ((0, -1), (1, -1)), ((1, -1),)]
        for latest in (None, [None, None], [5, 5], [5, None], [100, 100]):
            self.check(all_moves, [LIGHT, LIGHT], 5, places, latest=latest)
        self.check([(), ((1, -1),)], [LIGHT, LIGHT], 5, places, latest=[4, None])
        self.check([(), ((1, -1),)], [LIGHT, LIGHT], 5, places, latest=[0, 5])
        self.check([(), ((0, -1),)], [LIGHT, LIGHT], 5, places, latest=[None, 4])
        self.check([()], [LIGHT, LIGHT], 5, places, latest=[4, 4])

    def test_promises_do_not_bind_who_comes_in(self):
        self.check([(), ((0, 0),), ((0, 1),)], [LIGHT], 5, [SEA], latest=[0])

    def test_any_states_by_the_model(self):
        chance = random.Random(19)
        for _ in range(1500):
            harbour = some_harbour(chance)
            ships = [some_ship(chance) for _ in range(chance.randint(1, 3))]
            state = some_state(chance, harbour, ships)
            latest = chance.choice([None, [chance.choice([None, chance.randint(0, 40)]) for _ in ships]])
            found = moves_in(harbour, ships, state, latest=latest)
            self.assertEqual(found, model_moves(harbour, ships, state, latest), (harbour, ships, state, latest))
            for moves in found:
                self.assertEqual(after_moves(ships, state, moves), model_after(ships, state, moves))
                self.assertEqual(cost_in(ships, state, moves), model_cost_in(ships, state, moves))


class CostTest(unittest.TestCase):
    def check(self, expected, hour, places, moves):
        ships = [LONG, ship_with(LONG, sea=7, lie=9)]
        self.assertEqual(cost_in(ships, (hour, tuple(places)), moves), expected)

    def test_at_sea(self):
        self.check(10, 2, [SEA, SEA], ())
        self.check(0, 1, [SEA, SEA], ())
        self.check(7, 2, [SEA, SEA], ((0, 0),))
        self.check(3, 2, [SEA, SEA], ((1, 1),))
        self.check(0, 2, [SEA, SEA], ((0, 0), (1, 1)))

    def test_at_the_berth(self):
        self.check(14, 9, [(1, 0), (0, 0)], ())
        self.check(9, 9, [(1, 0), (0, 0)], ((0, -1),))
        self.check(5, 9, [(1, 0), (0, 0)], ((1, -1),))
        self.check(0, 9, [(1, 0), (0, 0)], ((0, -1), (1, -1)))

    def test_who_lies_her_stay_or_is_gone_costs_nothing(self):
        self.check(0, 9, [(1, 1), (0, 2)], ())
        self.check(0, 9, [GONE, (0, 1)], ())
        self.check(7, 9, [GONE, SEA], ())
        self.check(5, 9, [(0, 0), SEA], ((1, 1),))

    def test_an_end(self):
        self.check(0, 9, [GONE, GONE], ())


class BehindTest(unittest.TestCase):
    def check(self, expected, places, moves):
        found = after_moves([LONG, ship_with(LONG, stay=4)], (6, tuple(places)), moves)
        self.assertEqual(found, (7, tuple(expected)))

    def test_who_comes_in_has_her_whole_stay_left(self):
        self.check([(1, 2), (0, 4)], [SEA, SEA], ((0, 1), (1, 0)))

    def test_who_goes_out_has_gone(self):
        self.check([GONE, GONE], [(1, 0), (0, 0)], ((0, -1), (1, -1)))

    def test_who_does_not_move(self):
        self.check([SEA, GONE], [SEA, GONE], ())
        self.check([(0, 1), (1, 3)], [(0, 2), (1, 4)], ())
        self.check([(0, 0), (1, 0)], [(0, 1), (1, 0)], ())

    def test_moves_of_one_beside_another(self):
        self.check([(0, 0), GONE], [(0, 1), (1, 0)], ((1, -1),))
        self.check([(0, 2), SEA], [SEA, SEA], ((0, 0),))


class PlansTest(unittest.TestCase):
    def test_the_moves_of_a_plan(self):
        state = beginning(SHIPS)
        costs = []
        for hour in range(9):
            moves = {0: ((0, 0),), 3: ((0, -1),), 4: ((1, 0),), 8: ((1, -1),)}.get(hour, ())
            self.assertIn(moves, moves_in(HARBOUR, SHIPS, state))
            costs.append(cost_in(SHIPS, state, moves))
            state = after_moves(SHIPS, state, moves)
        self.assertEqual(state, (9, (GONE, GONE)))
        self.assertEqual(costs, hour_costs(SHIPS, PLAN))

    def test_plans_and_rows_of_moves_are_the_same(self):
        chance = random.Random(18)
        many = 0
        for _ in range(60):
            harbour, ships = small_case(chance)
            rows = rows_of_moves(harbour, ships, beginning(ships))
            plans = sorted(plan_of_row(ships, row) for row in rows)
            self.assertEqual(plans, sorted(model_plans(harbour, ships)), (harbour, ships))
            many += len(plans)
        self.assertGreater(many, 1000)

    def test_the_costs_of_a_row_of_moves_are_those_of_the_plan(self):
        chance = random.Random(20)
        for _ in range(40):
            harbour, ships = small_case(chance)
            for row in rows_of_moves(harbour, ships, beginning(ships))[:50]:
                plan = plan_of_row(ships, row)
                state = beginning(ships)
                total = 0
                for hour, moves in row:
                    cost = cost_in(ships, state, moves)
                    self.assertEqual(cost, model_hour_cost(ships, plan, hour))
                    total += cost
                    state = after_moves(ships, state, moves)
                self.assertEqual(total, cost_of(ships, plan))


if __name__ == "__main__":
    unittest.main()
