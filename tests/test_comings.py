"""Points 29 to 33: spans, comings, states and moves of ships that come when they come, and rules."""

import itertools
import random
import unittest

from tests.helper import (
    HARBOUR, NO_WHOLE_NUMBERS, SHIPS, error_of, harbour_with, lies, model_comings, model_late_moves, model_late_places,
    model_late_states, ship_with, small_case,
)
from tidewaits import best
from tidewaits.errors import BadNumber, BadSize
from tidewaits.harbours import cost_of, is_plan
from tidewaits.late import (
    check_spans, comings_of, cost_by, cost_of_move, first_states, is_end, moves_of, plan_by, ships_at, states_behind,
    sure_rule, sure_table, worst_coming,
)

# Deep enough at all hours but 3, 8, 13 and 18; berth 1 is the short one.
WIDE = ([9, 9, 9, 5, 9], [7, 4], 3, 2, 18)
LONG = (2, 7, 6, 2, 1, 3, 5)
LIGHT = (0, 1, 0, 1, 0, 1, 1)
NOT_YET = (0,)
SEA = (1,)
GONE = (3,)


class CheckSpansTest(unittest.TestCase):
    def check(self, expected, ships, spans):
        error = error_of(check_spans, ships, spans)
        self.assertIs(type(error) if error else None, expected, (ships, spans))

    def test_right_spans(self):
        for spans in itertools.product(range(4), repeat=2):
            self.check(None, SHIPS, list(spans))
        self.assertIsNone(check_spans(SHIPS, [0, 3]))
        self.check(None, [LIGHT], [3])
        self.check(None, [LIGHT, LONG, LIGHT], [3, 3, 3])

    def test_their_number(self):
        for spans in ([], [1], [1, 1, 1]):
            self.check(BadSize, SHIPS, spans)
        self.check(BadSize, [LIGHT], [])
        self.check(BadSize, [LIGHT], [0, 0])

    def test_their_bounds(self):
        for span in (-1, 4, 5, 10 ** 30, -10 ** 30):
            self.check(BadNumber, SHIPS, [span, 0])
            self.check(BadNumber, SHIPS, [0, span])

    def test_no_whole_numbers(self):
        for span in NO_WHOLE_NUMBERS:
            self.check(BadNumber, SHIPS, [span, 0])
            self.check(BadNumber, SHIPS, [3, span])

    def test_ready_and_span_together(self):
        for ready, span in itertools.product(range(15, 21), range(4)):
            expected = BadNumber if ready + span > 20 else None
            self.check(expected, [ship_with(LIGHT, ready=ready)], [span])
            self.check(expected, [LIGHT, ship_with(LIGHT, ready=ready)], [3, span])

    def test_the_number_comes_first(self):
        self.check(BadSize, SHIPS, [4])
        self.check(BadSize, SHIPS, ["1", None, True])
        self.check(BadSize, [ship_with(LIGHT, ready=20)], [1, 1])


class ComingsTest(unittest.TestCase):
    def test_the_ships_of_a_coming(self):
        expected = [(5, 5, 6, 2, 1, 3, 1), (7, 4, 8, 1, 2, 2, 2)]
        self.assertEqual(ships_at(SHIPS, (5, 7)), expected)
        self.assertEqual(ships_at(SHIPS, [5, 7]), expected)
        self.assertEqual(ships_at(SHIPS, (0, 1)), SHIPS)
        self.assertIs(type(ships_at(SHIPS, (5, 7))), list)
        self.assertIs(type(ships_at(SHIPS, [5, 7])[0]), tuple)

    def test_all_comings(self):
        self.assertEqual(comings_of(SHIPS, [0, 0]), [(0, 1)])
        self.assertEqual(comings_of(SHIPS, [1, 2]), [(0, 1), (0, 2), (0, 3), (1, 1), (1, 2), (1, 3)])
        self.assertEqual(comings_of([LONG], [3]), [(2,), (3,), (4,), (5,)])
        three = comings_of([LIGHT, LONG, LIGHT], [3, 3, 3])
        self.assertEqual((len(three), three[0], three[-1]), (64, (0, 2, 0), (3, 5, 3)))
        self.assertEqual(three, sorted(three))
        self.assertIs(type(three), list)

    def test_first_states(self):
        late = ship_with(LIGHT, ready=1)
        self.assertEqual(first_states([LIGHT], [0]), [(0, (SEA,))])
        self.assertEqual(first_states([LIGHT], [1]), [(0, (NOT_YET,)), (0, (SEA,))])
        self.assertEqual(first_states([late], [0]), [(0, (NOT_YET,))])
        self.assertEqual(first_states([late], [3]), [(0, (NOT_YET,))])
        self.assertEqual(first_states([LIGHT, late], [2, 2]), [(0, (NOT_YET, NOT_YET)), (0, (SEA, NOT_YET))])
        both = first_states([LIGHT, LIGHT], [3, 1])
        self.assertEqual(both, [(0, places) for places in itertools.product([NOT_YET, SEA], repeat=2)])
        self.assertEqual(first_states([LIGHT, LIGHT], [0, 1]), [(0, (SEA, NOT_YET)), (0, (SEA, SEA))])


class MovesTest(unittest.TestCase):
    def check(self, expected, ships, hour, places, harbour=WIDE):
        self.assertEqual(moves_of(harbour, ships, (hour, tuple(places))), expected)

    def test_a_ship_at_sea(self):
        self.check([(-1,), (0,)], [LONG], 4, [SEA])
        self.check([(-1,), (0,), (1,)], [LIGHT], 4, [SEA])
        self.check([(-1,), (0,), (1,)], [ship_with(LIGHT, length=4)], 4, [SEA])
        self.check([(-1,)], [ship_with(LIGHT, length=8)], 4, [SEA])

    def test_a_ship_that_has_not_come_or_has_gone(self):
        self.check([(-1,)], [LIGHT], 0, [NOT_YET])
        self.check([(-1,)], [LIGHT], 9, [NOT_YET])
        self.check([(-1, -1), (-1, 0), (-1, 1)], [LIGHT, LIGHT], 9, [GONE, SEA])

    def test_a_ship_at_a_berth(self):
        self.check([(-2,), (-1,)], [LONG], 4, [lies(0, 0)])
        self.check([(-2,), (-1,)], [LIGHT], 4, [lies(1, 0)])
        self.check([(-1,)], [LONG], 4, [lies(0, 1)])
        self.check([(-1,)], [LONG], 4, [lies(0, 2)])

    def test_a_berth_is_taken_until_she_goes_out_in_this_hour(self):
        self.check([(-2, -1), (-2, 1), (-1, -1), (-1, 1)], [LIGHT, LIGHT], 4, [lies(0, 0), SEA])
        self.check([(-1, -1), (-1, 0)], [LIGHT, LIGHT], 4, [lies(1, 1), SEA])

    def test_no_two_ships_come_to_one_berth(self):
        pairs = [(-1, -1), (-1, 0), (-1, 1), (0, -1), (0, 1), (1, -1), (1, 0)]
        self.check(pairs, [LIGHT, LIGHT], 4, [SEA, SEA])

    def test_depth_tugs_and_pilots(self):
        for hour in (3, 8, 13, 18):
            self.check([(-1,)], [LONG], hour, [SEA])
            self.check([(-1,)], [LONG], hour, [lies(0, 0)])
        self.check([(-2,), (-1,)], [ship_with(LONG, draught=9)], 4, [lies(0, 0)])
        two = [ship_with(LIGHT, tugs=2), ship_with(LIGHT, tugs=1)]
        both = [lies(0, 0), lies(1, 0)]
        self.check([(-2, -2), (-2, -1), (-1, -2), (-1, -1)], two, 4, both)
        self.check([(-2, -1), (-1, -2), (-1, -1)], two, 4, both, harbour_with(WIDE, tugs=2))
        self.check([(-1, -2), (-1, -1)], two, 4, both, harbour_with(WIDE, tugs=1))
        self.check([(-1, -1)], two, 4, both, harbour_with(WIDE, tugs=0))
        self.check([(-2, -1), (-1, -2), (-1, -1)], two, 4, both, harbour_with(WIDE, pilots=1))

    def test_the_last_hour(self):
        self.check([(-2,), (-1,)], [LIGHT], 18, [lies(1, 0)])

    def test_any_states_by_the_model(self):
        chance = random.Random(32)
        many = 0
        for _ in range(60):
            harbour, ships = small_case(chance, count=chance.randint(1, 3))
            spans = [chance.randint(0, 3) for _ in ships]
            for state, _ in sure_table(harbour, ships, spans):
                found = moves_of(harbour, ships, state)
                self.assertEqual(found, model_late_moves(harbour, ships, state))
                many += len(found) > 1
        self.assertGreater(many, 500)


class CostTest(unittest.TestCase):
    def check(self, expected, places, move):
        ships = [LONG, ship_with(LONG, sea=7, lie=9)]
        self.assertEqual(cost_of_move(ships, (4, tuple(places)), move), expected)

    def test_at_sea(self):
        self.check(10, [SEA, SEA], (-1, -1))
        self.check(7, [SEA, SEA], (0, -1))
        self.check(3, [SEA, SEA], (-1, 0))
        self.check(7, [NOT_YET, SEA], (-1, -1))
        self.check(0, [NOT_YET, NOT_YET], (-1, -1))

    def test_at_the_berth(self):
        self.check(14, [lies(0, 0), lies(1, 0)], (-1, -1))
        self.check(9, [lies(0, 0), lies(1, 0)], (-2, -1))
        self.check(5, [lies(0, 0), lies(1, 0)], (-1, -2))
        self.check(0, [lies(0, 0), lies(1, 0)], (-2, -2))
        self.check(0, [lies(0, 1), lies(1, 2)], (-1, -1))
        self.check(9, [GONE, lies(0, 0)], (-1, -1))

    def test_both(self):
        self.check(12, [lies(0, 0), SEA], (-1, -1))
        self.check(0, [GONE, GONE], (-1, -1))


class BehindTest(unittest.TestCase):
    def check(self, expected, state, move, ships=(LONG, LONG), spans=(3, 3), harbour=WIDE):
        found = states_behind(harbour, list(ships), list(spans), state, move)
        self.assertEqual(found, [(state[0] + 1, tuple(places)) for places in expected])

    def test_ends(self):
        self.assertIs(is_end((4, (lies(0, 0), lies(1, 0))), (-2, -2)), True)
        self.assertIs(is_end((4, (lies(0, 0), GONE)), (-2, -1)), True)
        self.assertIs(is_end((4, (GONE, lies(0, 0))), (-1, -2)), True)
        self.assertIs(is_end((4, (lies(0, 0), GONE)), (-1, -1)), False)
        self.assertIs(is_end((4, (lies(0, 0), lies(1, 0))), (-2, -1)), False)
        self.assertIs(is_end((4, (lies(0, 0), NOT_YET)), (-2, -1)), False)
        self.assertIs(is_end((4, (lies(0, 0), SEA)), (-2, 1)), False)

    def test_nothing_is_behind_an_end(self):
        self.check([], (4, (lies(0, 0), GONE)), (-2, -1))
        self.check([], (18, (lies(0, 0), GONE)), (-2, -1))

    def test_nothing_is_behind_a_miss(self):
        self.check([], (18, (lies(0, 0), GONE)), (-1, -1))
        self.check([], (18, (lies(0, 0), SEA)), (-2, 1))
        self.check([(lies(0, 0), GONE)], (17, (lies(0, 0), GONE)), (-1, -1))

    def test_places_behind(self):
        self.check([(lies(0, 2), SEA)], (9, (SEA, SEA)), (0, -1))
        self.check([(lies(0, 1), lies(1, 0))], (9, (lies(0, 2), lies(1, 1))), (-1, -1))
        self.check([(lies(0, 0), GONE)], (9, (lies(0, 0), lies(1, 0))), (-1, -2))
        self.check([(SEA, GONE)], (9, (SEA, GONE)), (-1, -1))

    def test_who_can_come(self):
        # They come in one of the hours from 2 to 5.
        unknown = [tuple(places) for places in itertools.product([NOT_YET, SEA], repeat=2)]
        self.check([(NOT_YET, NOT_YET)], (0, (NOT_YET, NOT_YET)), (-1, -1))
        self.check(unknown, (1, (NOT_YET, NOT_YET)), (-1, -1))
        self.check(unknown, (3, (NOT_YET, NOT_YET)), (-1, -1))
        self.check([(SEA, SEA)], (4, (NOT_YET, NOT_YET)), (-1, -1))
        self.check([(lies(0, 2), NOT_YET), (lies(0, 2), SEA)], (2, (SEA, NOT_YET)), (0, -1))
        self.check([(SEA, SEA)], (4, (SEA, NOT_YET)), (-1, -1))

    def test_spans_differ(self):
        self.check([(SEA, NOT_YET), (SEA, SEA)], (1, (NOT_YET, NOT_YET)), (-1, -1), spans=(0, 1))
        self.check([(NOT_YET, SEA), (SEA, SEA)], (2, (NOT_YET, NOT_YET)), (-1, -1), spans=(2, 1))
        self.check([(SEA, SEA)], (1, (NOT_YET, NOT_YET)), (-1, -1), spans=(0, 0))

    def test_kinds_of_values(self):
        found = states_behind(WIDE, [LONG], [3], (1, (NOT_YET,)), (-1,))
        self.assertEqual([type(part) for part in (found, found[0], found[0][1], found[0][1][0])], [list] + [tuple] * 3)

    def test_all_states_that_can_be_reached(self):
        chance = random.Random(31)
        for _ in range(40):
            harbour, ships = small_case(chance, last=chance.randint(3, 6))
            spans = [chance.randint(0, 3) for _ in ships]
            expected = model_late_states(harbour, ships, model_comings(ships, spans))
            self.assertEqual([state for state, _ in sure_table(harbour, ships, spans)], expected)
            self.assertEqual([state for state, _ in sure_rule(harbour, ships, spans)], expected)
            firsts = [state for state in expected if state[0] == 0]
            self.assertEqual(first_states(ships, spans), firsts)


class RulesTest(unittest.TestCase):
    """One ship, who comes in the hour 0 or 1, at one berth."""

    harbour = ([9], [5], 2, 1, 6)
    ships = [(0, 5, 9, 1, 1, 3, 4)]
    rule = [((0, (SEA,)), (0,)), ((1, (SEA,)), (0,)), ((2, (lies(0, 0),)), (-2,)), ((3, (lies(0, 0),)), (-2,))]

    def check(self, plan, rule, coming, harbour=None):
        harbour = harbour or self.harbour
        self.assertEqual(plan_by(harbour, self.ships, rule, coming), plan)
        self.assertEqual(plan_by(harbour, self.ships, rule, list(coming)), plan)
        cost = None if plan is None else cost_of(ships_at(self.ships, coming), plan)
        self.assertEqual(cost_by(harbour, self.ships, rule, coming), cost)
        self.assertEqual(cost_by(harbour, self.ships, rule, list(coming)), cost)

    def test_a_rule(self):
        self.check([(0, 0, 2)], self.rule, (0,))
        self.check([(1, 0, 3)], self.rule, (1,))
        self.check([(1, 0, 3)], self.rule[::-1], (1,))
        self.assertEqual(cost_by(self.harbour, self.ships, self.rule, (1,)), 0)

    def test_a_state_that_is_not_there(self):
        self.check(None, [], (0,))
        self.check(None, self.rule[:2], (0,))
        self.check(None, self.rule[2:], (0,))
        # She waits an hour, and goes on as from the hour 1.
        self.check([(1, 0, 3)], self.rule[1:], (0,))
        self.assertEqual(cost_by(self.harbour, self.ships, self.rule[1:], (0,)), 3)

    def test_a_state_twice(self):
        wait = ((0, (SEA,)), (-1,))
        self.check([(0, 0, 2)], self.rule + [wait], (0,))
        self.check([(1, 0, 3)], [wait] + self.rule, (0,))

    def test_a_move_that_is_none_of_the_state(self):
        for move in ((1,), (-2,), (2,), (9,)):
            self.check([(1, 0, 3)], [((0, (SEA,)), move)] + self.rule[1:], (0,))
            # The first tuple counts, though another one behind it would do.
            self.check([(1, 0, 3)], [((0, (SEA,)), move)] + self.rule, (0,))
        low = harbour_with(self.harbour, depths=[0, 9, 9, 9])
        self.check([(1, 0, 3)], self.rule, (0,), low)
        self.check(None, self.rule, (0,), harbour_with(self.harbour, tugs=0))

    def test_the_last_hour(self):
        self.check([(1, 0, 3)], self.rule, (1,), harbour_with(self.harbour, last=3))
        self.check(None, self.rule, (1,), harbour_with(self.harbour, last=2))
        self.check([(0, 0, 2)], self.rule, (0,), harbour_with(self.harbour, last=2))
        self.check(None, self.rule, (9,))

    def test_the_worst_coming(self):
        self.assertEqual(worst_coming(self.harbour, self.ships, [1], self.rule), (0,))
        self.assertEqual(worst_coming(self.harbour, self.ships, [1], self.rule[1:]), (0,))
        late = [((1, (SEA,)), (-1,)), ((2, (SEA,)), (0,)), ((4, (lies(0, 0),)), (-2,))]
        self.assertEqual(worst_coming(self.harbour, self.ships, [1], self.rule[:1] + self.rule[2:] + late), (1,))
        # None is greater than each number; the first of several counts.
        self.assertEqual(worst_coming(self.harbour, self.ships, [3], self.rule), (2,))
        self.assertEqual(worst_coming(self.harbour, self.ships, [3], []), (0,))
        self.assertEqual(worst_coming(self.harbour, self.ships, [0], []), (0,))

    def test_the_worst_coming_of_two_ships(self):
        rule = sure_rule(HARBOUR, SHIPS, [2, 1])
        comings = comings_of(SHIPS, [2, 1])
        costs = [cost_by(HARBOUR, SHIPS, rule, coming) for coming in comings]
        self.assertEqual(worst_coming(HARBOUR, SHIPS, [2, 1], rule), comings[costs.index(max(costs))])
        self.assertGreater(len(set(costs)), 1)

    def test_any_rules(self):
        chance = random.Random(33)
        found = []
        for _ in range(150):
            harbour, ships = small_case(chance, last=8)
            spans = [chance.randint(0, 2) for _ in ships]
            rule = []
            for state, _ in sure_table(harbour, ships, spans):
                moves = moves_of(harbour, ships, state)
                rule.append((state, chance.choice(moves[:1] * 3 + moves + [tuple(1 for _ in ships)])))
            chance.shuffle(rule)
            costs = []
            for coming in comings_of(ships, spans):
                plan = plan_by(harbour, ships, rule, coming)
                self.assertEqual(plan, plan_of_rule(harbour, ships, rule, coming))
                late = ships_at(ships, coming)
                self.assertTrue(plan is None or is_plan(harbour, late, plan))
                costs.append(None if plan is None else cost_of(late, plan))
                self.assertEqual(cost_by(harbour, ships, rule, coming), costs[-1])
                least = best.least_cost(harbour, late)
                self.assertTrue(costs[-1] is None or least <= costs[-1])
            found.extend(costs)
            worst = worst_coming(harbour, ships, spans, rule)
            self.assertEqual(comings_of(ships, spans).index(worst), costs.index(None if None in costs else max(costs)))
        self.assertGreater(min(found.count(None), len(found) - found.count(None)), 100)


def plan_of_rule(harbour, ships, rule, coming):
    """The plan by the rule in the coming, or None."""
    state = (0, tuple(SEA if hour == 0 else NOT_YET for hour in coming))
    plan = [()] * len(ships)
    for hour in range(harbour[4] + 1):
        told = [move for known, move in rule if known == state]
        move = tuple([-1] * len(ships))
        if told and told[0] in model_late_moves(harbour, ships, state):
            move = told[0]
        for ship, way in enumerate(move):
            plan[ship] += {-1: (), -2: (hour,)}.get(way, (hour, way))
        state = (hour + 1, model_late_places(ships, state, move, coming))
    return plan if all(len(row) == 3 for row in plan) else None


if __name__ == "__main__":
    unittest.main()
