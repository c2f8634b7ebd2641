"""Points 34 to 36: sure costs and numbers, sure rules, and lists that are upper or lower."""

import random
import unittest

from tests.helper import (
    HARBOUR, SHIPS, lies, model_cost, model_plans, model_sure, rows_with, rows_without, ship_with, small_case,
)
from tidewaits.best import least_cost
from tidewaits.late import (
    comings_of, cost_by, cost_of_move, first_states, is_end, is_sure_lower, is_sure_upper, moves_of, ships_at,
    states_behind, sure_cost, sure_rule, sure_table, worst_coming,
)

NOT_YET = (0,)
SEA = (1,)
GONE = (3,)
# She comes in the hour 0 or 1, and has five hours.
SMALL = ([9], [5], 2, 1, 4)
ONE = [(0, 5, 9, 1, 1, 3, 4)]
# Ebb in the hour 2: who comes in at hour 0 waits for an hour at the berth.
EBB = ([9, 9, 0, 9, 9], [5], 2, 1, 4)


def behind_all(harbour, ships, spans, state):
    """For each move that does not miss its cost and the states behind it, none for an end."""
    found = []
    for move in moves_of(harbour, ships, state):
        behind = states_behind(harbour, ships, spans, state, move)
        if behind or is_end(state, move):
            found.append((cost_of_move(ships, state, move), behind))
    return found


def model_upper(harbour, ships, spans, rows):
    numbers = dict(rows)
    right = len(numbers) == len(rows) and all(state in numbers for state in first_states(ships, spans))
    for state, number in rows:
        if number is not None:
            shown = False
            for cost, behind in behind_all(harbour, ships, spans, state):
                known = [numbers.get(other) for other in behind] or [0]
                shown = shown or None not in known and all(cost + other <= number for other in known)
            right = right and shown
    return right


def model_lower(harbour, ships, spans, rows):
    numbers = dict(rows)
    right = len(numbers) == len(rows) and any(state in numbers for state in first_states(ships, spans))
    for state, number in rows:
        for cost, behind in behind_all(harbour, ships, spans, state):
            known = [numbers[other] for other in behind if other in numbers] if behind else [0]
            if number is None:
                right = right and None in known
            else:
                right = right and any(other is None or cost + other >= number for other in known)
    return right


class SureTest(unittest.TestCase):
    def test_sure_costs(self):
        self.assertEqual([sure_cost(SMALL, ONE, [span]) for span in range(4)], [0, 0, 0, None])
        self.assertEqual((sure_cost(HARBOUR, SHIPS, [0, 0]), sure_cost(HARBOUR, SHIPS, [1, 0])), (10, 18))

    def test_a_table(self):
        expected = [
            ((0, (NOT_YET,)), 0), ((0, (SEA,)), 0),
            ((1, (SEA,)), 0), ((1, (lies(0, 1),)), 0),
            ((2, (SEA,)), 0), ((2, (lies(0, 0),)), 0), ((2, (lies(0, 1),)), 0),
            ((3, (SEA,)), None), ((3, (lies(0, 0),)), 0), ((3, (lies(0, 1),)), 0),
            ((4, (SEA,)), None), ((4, (lies(0, 0),)), 0), ((4, (lies(0, 1),)), None),
        ]
        self.assertEqual(sure_table(SMALL, ONE, [1]), expected)

    def test_a_table_with_waits(self):
        table = dict(sure_table(EBB, ONE, [1]))
        self.assertEqual(table[(0, (SEA,))], 3)
        self.assertEqual(table[(0, (NOT_YET,))], 0)
        self.assertEqual(table[(2, (lies(0, 0),))], 4)
        self.assertEqual(sure_cost(EBB, ONE, [1]), 3)

    def test_a_rule(self):
        expected = [
            ((0, (NOT_YET,)), (-1,)), ((0, (SEA,)), (0,)),
            ((1, (SEA,)), (0,)), ((1, (lies(0, 1),)), (-1,)),
            ((2, (SEA,)), (0,)), ((2, (lies(0, 0),)), (-2,)), ((2, (lies(0, 1),)), (-1,)),
            ((3, (SEA,)), (-1,)), ((3, (lies(0, 0),)), (-2,)), ((3, (lies(0, 1),)), (-1,)),
            ((4, (SEA,)), (-1,)), ((4, (lies(0, 0),)), (-2,)), ((4, (lies(0, 1),)), (-1,)),
        ]
        self.assertEqual(sure_rule(SMALL, ONE, [1]), expected)

    def test_the_first_of_several_moves(self):
        # To wait costs nothing, and -1 stands ahead of the berths, -2 ahead of -1.
        idle = [ship_with(ONE[0], sea=0, lie=0)]
        rule = dict(sure_rule(([9], [5, 5], 2, 1, 4), idle, [0]))
        self.assertEqual(rule[(0, (SEA,))], (-1,))
        self.assertEqual(rule[(2, (SEA,))], (0,))
        self.assertEqual(rule[(3, (lies(0, 0),))], (-2,))
        # Where it is None no ship moves, though there are moves ahead of that.
        two = [ship_with(ONE[0], lie=0), ship_with(ONE[0], ready=4)]
        rule = dict(sure_rule(SMALL, two, [0, 0]))
        self.assertEqual(rule[(3, (lies(0, 0), NOT_YET))], (-1, -1))
        self.assertIn((-2, -1), moves_of(SMALL, two, (3, (lies(0, 0), NOT_YET))))

    def test_kinds_of_values(self):
        table, rule = sure_table(SMALL, ONE, [1]), sure_rule(SMALL, ONE, [1])
        self.assertEqual([type(part) for part in (table, *table[0])], [list, tuple, int])
        self.assertIs(type(table[0]), tuple)
        self.assertEqual([type(part) for part in (rule, rule[0], rule[0][0], rule[0][1])], [list] + [tuple] * 3)

    def test_sure_costs_by_all_that_can_be_known(self):
        chance = random.Random(34)
        found = []
        for _ in range(250):
            harbour, ships = small_case(chance, last=chance.randint(4, 7))
            spans = [chance.randint(0, 2) for _ in ships]
            cost = sure_cost(harbour, ships, spans)
            self.assertEqual(cost, model_sure(harbour, ships, spans), (harbour, ships, spans))
            found.append(cost)
        self.assertGreater(len(found) - found.count(None), 60)
        self.assertGreater(found.count(None), 60)

    def test_to_know_less_can_cost_more_than_each_coming(self):
        above = 0
        chance = random.Random(360)
        for _ in range(300):
            harbour, ships = small_case(chance, last=8, count=2)
            spans = [chance.randint(0, 2) for _ in ships]
            cost = sure_cost(harbour, ships, spans)
            known = [least_cost(harbour, ships_at(ships, coming)) for coming in comings_of(ships, spans)]
            if cost is not None:
                self.assertNotIn(None, known)
                self.assertGreaterEqual(cost, max(known))
                above += cost > max(known)
        self.assertGreater(above, 0)

    def test_greater_spans_never_cost_less(self):
        chance = random.Random(36)
        rises = 0
        for _ in range(300):
            harbour, ships = small_case(chance, last=chance.randint(6, 10))
            spans = [chance.randint(0, 2) for _ in ships]
            more = [min(3, span + chance.randint(0, 1)) for span in spans]
            cost, other = sure_cost(harbour, ships, spans), sure_cost(harbour, ships, more)
            self.assertTrue(other is None or cost is not None and cost <= other)
            rises += cost != other
        self.assertGreater(rises, 10)

    def test_spans_of_0(self):
        chance = random.Random(350)
        for _ in range(100):
            harbour, ships = small_case(chance, last=chance.randint(4, 9))
            costs = [model_cost(ships, plan) for plan in model_plans(harbour, ships)]
            self.assertEqual(sure_cost(harbour, ships, [0 for _ in ships]), min(costs, default=None))

    def test_who_goes_by_the_sure_rule_pays_the_sure_cost_at_most(self):
        chance = random.Random(340)
        for _ in range(100):
            harbour, ships = small_case(chance, last=chance.randint(4, 9))
            spans = [chance.randint(0, 2) for _ in ships]
            rule = sure_rule(harbour, ships, spans)
            cost = sure_cost(harbour, ships, spans)
            if cost is not None:
                self.assertEqual(cost_by(harbour, ships, rule, worst_coming(harbour, ships, spans, rule)), cost)
                for coming in comings_of(ships, spans):
                    self.assertLessEqual(cost_by(harbour, ships, rule, coming), cost)


class ListsTest(unittest.TestCase):
    """One ship who comes in the hour 0 or 1; if she has come at 0 she waits for an hour at sea or at the berth."""

    def check(self, upper, lower, rows, harbour=EBB, ships=ONE, spans=(1,)):
        spans = list(spans)
        self.assertIs(is_sure_upper(harbour, ships, spans, rows), upper, rows)
        self.assertIs(is_sure_lower(harbour, ships, spans, rows), lower, rows)
        self.assertEqual(model_upper(harbour, ships, spans, rows), upper)
        self.assertEqual(model_lower(harbour, ships, spans, rows), lower)

    def setUp(self):
        self.rows = sure_table(EBB, ONE, [1])

    def test_the_table_is_both(self):
        self.check(True, True, self.rows)
        self.check(True, True, self.rows[::-1])
        self.check(True, True, sure_table(HARBOUR, SHIPS, [1, 2]), HARBOUR, SHIPS, [1, 2])
        self.check(True, True, sure_table(SMALL, ONE, [3]), SMALL, ONE, [3])

    def test_no_rows(self):
        self.check(False, False, [])

    def test_a_state_twice(self):
        for row in self.rows:
            self.check(False, False, self.rows + [row])
            self.check(False, False, [row] + self.rows)
        self.check(False, False, self.rows + [((0, (SEA,)), 4)])

    def test_a_first_state_left_out(self):
        self.check(False, True, rows_without(self.rows, (0, (SEA,))))
        self.check(False, True, rows_without(self.rows, (0, (NOT_YET,))))
        self.check(False, False, self.rows[2:])

    def test_no_more_states_than_are_needed(self):
        upper = [
            ((0, (SEA,)), 3), ((0, (NOT_YET,)), 0), ((1, (SEA,)), 0), ((2, (lies(0, 1),)), 0), ((3, (lies(0, 0),)), 0),
        ]
        self.check(True, False, upper)
        for state, _ in upper:
            self.check(False, False, rows_without(upper, state))
        # What is not known, None, shows nothing in an upper list.
        for state, _ in upper[2:]:
            self.check(False, False, rows_with(upper, state, None))

    def test_a_number_too_little_for_upper(self):
        for state, number in self.rows:
            if number is not None:
                self.assertIs(is_sure_upper(EBB, ONE, [1], rows_with(self.rows, state, number - 1)), False)
        self.check(False, True, [(state, 0) for state, _ in self.rows])

    def test_a_number_too_great_for_lower(self):
        self.check(True, False, rows_with(self.rows, (0, (SEA,)), 4))
        for state, number in self.rows:
            if number is not None:
                self.assertIs(is_sure_lower(EBB, ONE, [1], rows_with(self.rows, state, number + 1)), False)

    def test_none_in_the_first_states(self):
        # Upper tells nothing then; lower would tell that there is no rule.
        self.check(True, False, rows_with(self.rows, (0, (SEA,)), None))
        self.check(True, False, [((0, (SEA,)), None), ((0, (NOT_YET,)), None)])

    def with_lost(self, *numbers):
        """The list with these numbers at sea in the hours 4, 3 and 2, in which it is too late to come in."""
        rows = self.rows
        for hour, number in zip((4, 3, 2), numbers):
            rows = rows_with(rows, (hour, (SEA,)), number)
        return rows

    def test_a_number_where_the_sure_one_is_none(self):
        # Nothing but misses is left at the last hour: no number shows upper, each shows lower.
        self.assertEqual(moves_of(EBB, ONE, (4, (SEA,))), [(-1,), (0,)])
        for number in (-5, 0, 100):
            self.check(False, True, self.with_lost(number, number + 3, number + 6))
            self.check(False, False, self.with_lost(number, number + 4, number + 7))
            self.check(False, False, self.with_lost(number))

    def test_none_counts_as_greater_than_each_number(self):
        self.check(False, True, self.with_lost(None, 10 ** 30, 10 ** 30 + 3))
        self.check(False, True, self.with_lost(None, None, 10 ** 30))
        self.check(False, False, self.with_lost(None, 10 ** 30, None))

    def test_an_end_costs_the_move_alone(self):
        out = (3, (lies(0, 0),))
        low = [(state, 0 if state[0] == 4 else -9) for state, _ in self.rows]
        high = [((0, (SEA,)), None), ((0, (NOT_YET,)), None)]
        for number, upper, lower in ((-1, False, True), (0, True, True), (1, True, False), (None, True, False)):
            self.assertIs(is_sure_lower(EBB, ONE, [1], rows_with(low, out, number)), lower)
            self.assertIs(is_sure_upper(EBB, ONE, [1], high + [(out, number)]), upper)

    def test_a_lower_list_needs_one_state_behind_each_move(self):
        # Behind the hour 0 either one or none of the two ships has come: one of them will do.
        ships, spans = [ONE[0], ship_with(ONE[0], ready=1)], [0, 2]
        harbour = ([9], [5, 5], 2, 1, 7)
        rows = sure_table(harbour, ships, spans)
        self.check(True, True, rows, harbour, ships, spans)
        seen = 0
        for state, number in rows:
            if state[0] == 1 and state[1][1] == NOT_YET:
                less = rows_without(rows, state)
                found = is_sure_lower(harbour, ships, spans, less)
                self.assertEqual(found, model_lower(harbour, ships, spans, less))
                self.assertIs(is_sure_upper(harbour, ships, spans, less), model_upper(harbour, ships, spans, less))
                seen += found
        self.assertGreater(seen, 0)

    def test_any_lists(self):
        chance = random.Random(35)
        counts = {}
        for _ in range(1500):
            harbour, ships = small_case(chance, last=chance.randint(3, 5), count=1)
            ships[0] = ship_with(ships[0], ready=0)
            spans = [chance.randint(0, 2)]
            table = sure_table(harbour, ships, spans)
            shift = chance.choice([0, 0, 1, -1])
            rows = []
            for state, number in table:
                if chance.random() < 0.97:
                    other = chance.choice([number] * 30 + [None, 0, chance.randint(-3, 9)])
                    rows.append((state, other if other is None else other + shift))
            upper, lower = is_sure_upper(harbour, ships, spans, rows), is_sure_lower(harbour, ships, spans, rows)
            self.assertIs(upper, model_upper(harbour, ships, spans, rows))
            self.assertIs(lower, model_lower(harbour, ships, spans, rows))
            counts[(upper, lower)] = counts.get((upper, lower), 0) + 1
            self.check_bounds(harbour, ships, spans, rows, upper, lower)
        self.assertEqual(len(counts), 4)
        self.assertGreater(min(counts.values()), 30)

    def check_bounds(self, harbour, ships, spans, rows, upper, lower):
        """What the lists show of the sure cost."""
        cost = sure_cost(harbour, ships, spans)
        firsts = [number for state, number in rows if state in first_states(ships, spans)]
        if upper and None not in firsts:
            self.assertLessEqual(cost, max(firsts))
        if lower and cost is not None:
            self.assertNotIn(None, firsts)
            self.assertGreaterEqual(cost, max(firsts))


if __name__ == "__main__":
    unittest.main()
