"""Points 37 and 38: chances, mean costs and numbers, and lists that are mean upper or mean lower."""

import fractions
import itertools
import random
import unittest

from tests.helper import (
    HARBOUR, NO_WHOLE_NUMBERS, SHIPS, error_of, lies, model_chance, model_comings, model_late_states, model_mean,
    rows_with, rows_without, share_of, ship_with, small_case, some_chances,
)
from tidewaits.best import least_cost
from tidewaits.chances import (
    chance_of, check_chances, is_mean_lower, is_mean_upper, mean_cost, mean_of, mean_table, spans_of,
)
from tidewaits.errors import BadNumber, BadSize
from tidewaits.late import (
    comings_of, cost_by, cost_of_move, is_end, moves_of, ships_at, states_behind, sure_cost, sure_rule,
)

NOT_YET = (0,)
SEA = (1,)
GONE = (3,)
NOW = [(1, 1)]
LIGHT = (0, 1, 0, 1, 0, 1, 1)
# She comes in the hour 0 or 1. Ebb in the hour 2: if she came in at hour 0 she waits for an hour at the berth.
EBB = ([9, 9, 0, 9, 9], [5], 2, 1, 4)
ONE = [(0, 5, 9, 1, 1, 3, 4)]
THIRDS = [[(1, 3), (2, 3)]]
# The same, but with a chance of 0 at the end and in the middle.
ENDS = [[(1, 1), (0, 1)]]
GAP = [[(2, 5), (0, 1), (3, 5)]]


def plus(number, step):
    """The number that is greater by the step."""
    return share_of(fractions.Fraction(*number) + fractions.Fraction(step))


def likely_comings(ships, chances):
    found = [(coming, model_chance(ships, chances, coming)) for coming in model_comings(ships, spans_of(chances))]
    return [(coming, chance) for coming, chance in found if chance]


def fits(coming, state):
    """Whether the places tell of each ship that she has come, or has not, as in the coming."""
    hour, places = state
    return all((hers > hour) == (place == NOT_YET) for hers, place in zip(coming, places))


def chances_of(ships, chances, known, states):
    """The states whose chance is not 0, with it, if the coming is one that is known: by counting all comings."""
    possible = [(coming, chance) for coming, chance in likely_comings(ships, chances) if known(coming)]
    total = sum(chance for _, chance in possible)
    found = [(state, sum(chance for coming, chance in possible if fits(coming, state)) / total) for state in states]
    return [(state, chance) for state, chance in found if chance]


def firsts_of(ships, chances):
    states = [(0, places) for places in itertools.product([NOT_YET, SEA], repeat=len(ships))]
    return chances_of(ships, chances, lambda coming: True, states)


def known_in(state, coming):
    """Whether the coming fits who has come and who has not in the state."""
    hour, places = state
    return all((hers > hour) if place == NOT_YET else (hers <= hour) for hers, place in zip(coming, places))


def model_numbers(harbour, ships, chances, state, numbers):
    """For each move that does not miss its cost and the sum behind it; a missing state makes it the word for that."""
    found = []
    for move in moves_of(harbour, ships, state):
        behind = states_behind(harbour, ships, spans_of(chances), state, move)
        if not behind and not is_end(state, move):
            continue
        total = fractions.Fraction(cost_of_move(ships, state, move))
        for other, chance in chances_of(ships, chances, lambda coming: known_in(state, coming), behind):
            if other not in numbers:
                total = "missing"
                break
            if numbers[other] is None or total is None:
                total = None
            else:
                total += chance * fractions.Fraction(*numbers[other])
        found.append(total)
    return found


def model_upper(harbour, ships, chances, rows):
    numbers = dict(rows)
    right = len(numbers) == len(rows) and all(state in numbers for state, _ in firsts_of(ships, chances))
    for state, number in rows:
        if number is not None:
            found = model_numbers(harbour, ships, chances, state, numbers)
            told = [total for total in found if total not in (None, "missing")]
            right = right and any(total <= fractions.Fraction(*number) for total in told)
    return right


def model_lower(harbour, ships, chances, rows):
    numbers = dict(rows)
    right = len(numbers) == len(rows) and all(state in numbers for state, _ in firsts_of(ships, chances))
    for state, number in rows:
        for total in model_numbers(harbour, ships, chances, state, numbers):
            if total == "missing" or total is not None and (number is None or total < fractions.Fraction(*number)):
                right = False
    return right


class CheckChancesTest(unittest.TestCase):
    def check(self, expected, ships, chances):
        error = error_of(check_chances, ships, chances)
        self.assertIs(type(error) if error else None, expected, (ships, chances))

    def test_right_chances(self):
        self.assertIsNone(check_chances(ONE, [NOW]))
        for row in (NOW, [(1, 2), (1, 2)], [(1, 3), (1, 3), (1, 3)], [(1, 4), (1, 4), (1, 4), (1, 4)],
                    [(99, 100), (1, 100)], [(1, 97), (96, 97)], [(0, 1), (1, 1)], [(1, 1), (0, 1), (0, 1), (0, 1)],
                    [(1, 2), (1, 3), (1, 6)], [(1, 10), (1, 4), (13, 20)]):
            self.check(None, [LIGHT], [row])
            self.check(None, [LIGHT, LIGHT, LIGHT], [NOW, row, row])

    def test_the_number_of_lists(self):
        for chances in ([], [NOW], [NOW, NOW, NOW]):
            self.check(BadSize, SHIPS, chances)
        self.check(BadSize, [LIGHT], [])

    def test_the_number_of_chances(self):
        self.check(BadSize, [LIGHT], [[]])
        self.check(BadSize, SHIPS, [NOW, []])
        fifths = [(1, 5)] * 5
        self.check(BadSize, [LIGHT], [fifths])
        self.check(BadSize, SHIPS, [fifths, NOW])
        self.check(BadSize, SHIPS, [NOW, [(1, 1)] + [(0, 1)] * 4])

    def test_bounds_of_chances(self):
        for wrong in ((1, 0), (0, 0), (1, -1), (-1, 1), (2, 1), (1, 101), (100, 101), (10 ** 30, 1), (-1, 2), (-1, -1)):
            self.check(BadNumber, [LIGHT], [[wrong]])
            self.check(BadNumber, [LIGHT], [[wrong, (1, 2)]])
            self.check(BadNumber, SHIPS, [NOW, [(1, 2), wrong]])

    def test_sums_that_are_1_with_wrong_chances(self):
        self.check(BadNumber, [LIGHT], [[(3, 2), (-1, 2)]])
        self.check(BadNumber, [LIGHT], [[(1, 101), (100, 101)]])
        self.check(BadNumber, [LIGHT], [[(-1, 2), (3, 2)]])
        self.check(BadNumber, [LIGHT], [[(-1, -1)]])
        self.check(BadNumber, [LIGHT], [[(-1, -2), (1, 2)]])

    def test_lowest_terms(self):
        self.check(BadNumber, [LIGHT], [[(2, 2)]])
        self.check(BadNumber, [LIGHT], [[(2, 4), (1, 2)]])
        self.check(BadNumber, [LIGHT], [[(1, 2), (50, 100)]])
        self.check(BadNumber, [LIGHT], [[(1, 1), (0, 2)]])
        self.check(BadNumber, [LIGHT], [[(0, 100), (1, 1)]])

    def test_no_whole_numbers(self):
        for value in NO_WHOLE_NUMBERS:
            self.check(BadNumber, [LIGHT], [[(value, 1)]])
            self.check(BadNumber, [LIGHT], [[(1, value)]])
            self.check(BadNumber, SHIPS, [NOW, [(1, 2), (value, 2)]])
            self.check(BadNumber, SHIPS, [[(1, 2), (1, value)], NOW])

    def test_sums(self):
        for row in ([(0, 1)], [(1, 2)], [(1, 2), (1, 3)], [(1, 2), (2, 3)], [(1, 1), (1, 100)], [(99, 100)],
                    [(1, 1), (1, 1)], [(1, 3), (1, 3), (33, 100)]):
            self.check(BadNumber, [LIGHT], [row])
            self.check(BadNumber, SHIPS, [NOW, row])

    def test_ready_and_span_together(self):
        rows = [NOW, [(1, 2)] * 2, [(1, 3)] * 3, [(1, 4)] * 4]
        for ready, span in itertools.product(range(15, 21), range(4)):
            expected = BadNumber if ready + span > 20 else None
            self.check(expected, [ship_with(LIGHT, ready=ready)], [rows[span]])
            self.check(expected, [LIGHT, ship_with(LIGHT, ready=ready)], [rows[3], rows[span]])

    def test_the_sizes_come_first(self):
        self.check(BadSize, SHIPS, [[(2, 1)], []])
        self.check(BadSize, SHIPS, [[(None, 1)]])
        self.check(BadSize, [ship_with(LIGHT, ready=20), LIGHT], [[(1, 2), (1, 2)], []])

    def test_spans(self):
        self.assertEqual(spans_of([NOW]), [0])
        self.assertEqual(spans_of([NOW, [(1, 2)] * 2, [(1, 4)] * 4]), [0, 1, 3])
        self.assertIs(type(spans_of([NOW])), list)


class ChanceTest(unittest.TestCase):
    def test_chances_of_comings(self):
        ships = [LIGHT, ship_with(LIGHT, ready=5)]
        chances = [[(1, 4), (3, 4)], [(2, 3), (0, 1), (1, 3)]]
        self.assertEqual(chance_of(ships, chances, (0, 5)), (1, 6))
        self.assertEqual(chance_of(ships, chances, [1, 5]), (1, 2))
        self.assertEqual(chance_of(ships, chances, (1, 7)), (1, 4))
        self.assertEqual(chance_of(ships, chances, (0, 6)), (0, 1))
        self.assertEqual(chance_of([LIGHT], [NOW], (0,)), (1, 1))

    def test_any_chances(self):
        chance = random.Random(37)
        for _ in range(60):
            _, ships = small_case(chance, count=chance.randint(1, 3))
            chances = some_chances(chance, [chance.randint(0, 3) for _ in ships])
            check_chances(ships, chances)
            total = fractions.Fraction(0)
            for coming in comings_of(ships, spans_of(chances)):
                found = chance_of(ships, chances, coming)
                self.assertEqual(found, share_of(model_chance(ships, chances, coming)))
                total += fractions.Fraction(*found)
            self.assertEqual(total, 1)


class MeanTest(unittest.TestCase):
    def test_mean_costs(self):
        # If she comes at 0 she waits for 3 at sea; at 1 she does not wait.
        self.assertEqual(mean_cost(EBB, ONE, THIRDS), (1, 1))
        self.assertEqual(mean_cost(EBB, ONE, [[(1, 4), (3, 4)]]), (3, 4))
        self.assertEqual(mean_cost(EBB, ONE, [NOW]), (3, 1))
        self.assertEqual(mean_cost(EBB, ONE, ENDS), (3, 1))
        self.assertEqual(mean_cost(EBB, ONE, [[(0, 1), (1, 1)]]), (0, 1))
        self.assertEqual(mean_cost(HARBOUR, SHIPS, [[(1, 4), (3, 4)], NOW]), (16, 1))

    def test_no_mean_cost(self):
        # At the hour 2 it is too late for her.
        self.assertIsNone(mean_cost(EBB, ONE, [[(1, 3), (1, 3), (1, 3)]]))
        self.assertIsNone(mean_cost(EBB, ONE, [[(98, 100), (1, 100), (1, 100)]]))
        self.assertEqual(mean_cost(EBB, ONE, [[(1, 3), (2, 3), (0, 1)]]), (1, 1))
        self.assertIsNone(mean_cost(EBB, ONE + ONE, [NOW, NOW]))

    def test_a_table(self):
        expected = [
            ((0, (NOT_YET,)), (0, 1)), ((0, (SEA,)), (3, 1)),
            ((1, (SEA,)), (0, 1)), ((1, (lies(0, 1),)), (4, 1)),
            ((2, (SEA,)), None), ((2, (lies(0, 0),)), (4, 1)), ((2, (lies(0, 1),)), (0, 1)),
            ((3, (SEA,)), None), ((3, (lies(0, 0),)), (0, 1)),
            ((4, (SEA,)), None), ((4, (lies(0, 0),)), (0, 1)), ((4, (lies(0, 1),)), None),
        ]
        self.assertEqual(mean_table(EBB, ONE, THIRDS), expected)

    def test_states_that_cannot_be_reached_are_not_in_a_table(self):
        states = [state for state, _ in mean_table(EBB, ONE, ENDS)]
        self.assertEqual(states[:2], [(0, (SEA,)), (1, (SEA,))])
        states = [state for state, _ in mean_table(EBB, ONE, [[(0, 1), (1, 1)]])]
        self.assertEqual(states[:2], [(0, (NOT_YET,)), (1, (SEA,))])
        # With two ships: that none has come by the hour 1 cannot be, though each spans three hours.
        states = [state for state, _ in mean_table(EBB, ONE + ONE, [GAP[0], [(1, 2), (1, 2), (0, 1)]])]
        self.assertIn((1, (NOT_YET, SEA)), states)
        self.assertNotIn((1, (NOT_YET, NOT_YET)), states)
        self.assertNotIn((2, (SEA, NOT_YET)), states)

    def test_chances_when_it_is_given_who_has_come(self):
        # Tides at 0, 3 and 4 alone; who comes at 1 waits for two hours, at 2 for one, at 3 for none.
        harbour, ships = ([9, 0, 0, 9, 9, 9, 9], [5], 2, 1, 6), [(0, 5, 9, 1, 1, 6, 4)]
        chances = [[(1, 2), (1, 6), (2, 9), (1, 9)]]
        numbers = dict(mean_table(harbour, ships, chances))
        self.assertEqual(numbers[(1, (SEA,))], (12, 1))
        self.assertEqual(numbers[(2, (SEA,))], (6, 1))
        self.assertEqual(numbers[(2, (NOT_YET,))], (0, 1))
        # Of those who have not come by the hour 1 two in three come at 2, which costs 6.
        self.assertEqual(numbers[(1, (NOT_YET,))], (4, 1))
        self.assertEqual(numbers[(0, (NOT_YET,))], share_of(fractions.Fraction(12 + 2 * 4, 3)))
        self.assertEqual(numbers[(0, (SEA,))], (4, 1))
        self.assertEqual(mean_cost(harbour, ships, chances), share_of(fractions.Fraction(4 * 3 + 20, 6)))

    def test_lowest_terms(self):
        for _, number in mean_table(HARBOUR, SHIPS, [[(1, 4), (1, 4), (1, 2)], [(5, 6), (1, 6)]]):
            if number is not None:
                self.assertEqual(number, share_of(fractions.Fraction(*number)))
                self.assertEqual([type(number), type(number[0]), type(number[1])], [tuple, int, int])

    def test_mean_costs_by_all_that_can_be_known(self):
        chance = random.Random(38)
        found = []
        for _ in range(250):
            harbour, ships = small_case(chance, last=chance.randint(4, 7))
            chances = some_chances(chance, [chance.randint(0, 2) for _ in ships])
            cost = mean_cost(harbour, ships, chances)
            self.assertEqual(cost, share_of(model_mean(harbour, ships, chances)), (harbour, ships, chances))
            found.append(cost)
        self.assertGreater(len(found) - found.count(None), 60)
        self.assertGreater(found.count(None), 60)
        self.assertGreater(len([cost for cost in found if cost and cost[1] > 1]), 10)

    def test_tables_hold_the_states_that_can_be_reached(self):
        chance = random.Random(381)
        for _ in range(60):
            harbour, ships = small_case(chance, last=chance.randint(4, 6))
            chances = some_chances(chance, [chance.randint(0, 2) for _ in ships])
            comings = [coming for coming, _ in likely_comings(ships, chances)]
            expected = model_late_states(harbour, ships, comings)
            self.assertEqual([state for state, _ in mean_table(harbour, ships, chances)], expected)

    def test_the_bounds_of_the_mean_cost(self):
        chance = random.Random(382)
        between = 0
        for _ in range(200):
            harbour, ships = small_case(chance, last=8)
            chances = some_chances(chance, [chance.randint(0, 2) for _ in ships])
            mean, sure = mean_cost(harbour, ships, chances), sure_cost(harbour, ships, spans_of(chances))
            if mean is None:
                self.assertIsNone(sure)
                continue
            mean = fractions.Fraction(*mean)
            self.assertTrue(sure is None or mean <= sure)
            known = 0
            for coming, part in likely_comings(ships, chances):
                known += part * least_cost(harbour, ships_at(ships, coming))
            self.assertGreaterEqual(mean, known)
            between += sure is not None and known <= mean < sure
        self.assertGreater(between, 10)


class MeanOfTest(unittest.TestCase):
    def test_the_mean_of_a_rule(self):
        # At once: 4 if she comes at 0, nothing if at 1.
        rule = [
            ((0, (SEA,)), (0,)), ((1, (SEA,)), (0,)), ((2, (lies(0, 0),)), (-2,)), ((3, (lies(0, 0),)), (-2,)),
        ]
        self.assertEqual(mean_of(EBB, ONE, rule, THIRDS), (4, 3))
        self.assertEqual(mean_of(EBB, ONE, rule[1:], THIRDS), (1, 1))
        self.assertEqual(mean_of(EBB, ONE, rule, [NOW]), (4, 1))
        self.assertEqual(mean_of(EBB, ONE, rule, [[(1, 4), (3, 4)]]), (1, 1))
        self.assertIsNone(mean_of(EBB, ONE, rule[:1], THIRDS))
        self.assertIsNone(mean_of(EBB, ONE, [], THIRDS))

    def test_comings_whose_chance_is_0_do_not_count(self):
        rule = [((0, (SEA,)), (0,)), ((3, (lies(0, 0),)), (-2,))]
        self.assertIsNone(mean_of(EBB, ONE, rule, THIRDS))
        self.assertEqual(mean_of(EBB, ONE, rule, ENDS), (4, 1))
        self.assertIsNone(mean_of(EBB, ONE, rule, [[(0, 1), (1, 1)]]))
        self.assertIsNone(mean_of(EBB, ONE, rule, GAP))

    def test_any_rules(self):
        chance = random.Random(370)
        found = []
        for _ in range(150):
            harbour, ships = small_case(chance, last=8)
            chances = some_chances(chance, [chance.randint(0, 2) for _ in ships])
            rule = sure_rule(harbour, ships, spans_of(chances))
            for at in range(len(rule)):
                if chance.random() < 0.05:
                    rule[at] = (rule[at][0], chance.choice(moves_of(harbour, ships, rule[at][0])))
            expected = fractions.Fraction(0)
            for coming, part in likely_comings(ships, chances):
                cost = cost_by(harbour, ships, rule, coming)
                expected = None if None in (cost, expected) else expected + part * cost
            self.assertEqual(mean_of(harbour, ships, rule, chances), share_of(expected))
            least = mean_cost(harbour, ships, chances)
            if expected is not None:
                self.assertLessEqual(fractions.Fraction(*least), expected)
            found.append(expected)
        self.assertGreater(min(found.count(None), len([mean for mean in found if mean])), 20)


class ListsTest(unittest.TestCase):
    def check(self, upper, lower, rows, harbour=EBB, ships=ONE, chances=THIRDS):
        self.assertIs(is_mean_upper(harbour, ships, chances, rows), upper, rows)
        self.assertIs(is_mean_lower(harbour, ships, chances, rows), lower, rows)
        self.assertEqual(model_upper(harbour, ships, chances, rows), upper)
        self.assertEqual(model_lower(harbour, ships, chances, rows), lower)

    def setUp(self):
        self.rows = mean_table(EBB, ONE, THIRDS)

    def test_the_table_is_both(self):
        self.check(True, True, self.rows)
        self.check(True, True, self.rows[::-1])
        for chances in (ENDS, GAP, [NOW]):
            self.check(True, True, mean_table(EBB, ONE, chances), chances=chances)
        chances = [[(1, 4), (0, 1), (3, 4)], [(5, 6), (1, 6)]]
        self.check(True, True, mean_table(HARBOUR, SHIPS, chances), HARBOUR, SHIPS, chances)

    def test_no_rows(self):
        self.check(False, False, [])

    def test_a_state_twice(self):
        for row in self.rows:
            self.check(False, False, self.rows + [row])
            self.check(False, False, [row] + self.rows)

    def test_a_first_state_left_out(self):
        self.check(False, False, rows_without(self.rows, (0, (SEA,))))
        self.check(False, False, rows_without(self.rows, (0, (NOT_YET,))))

    def test_a_first_state_whose_chance_is_0_is_not_asked(self):
        rows = mean_table(EBB, ONE, ENDS)
        self.assertNotIn((0, (NOT_YET,)), [state for state, _ in rows])
        self.check(True, True, rows, chances=ENDS)
        self.check(False, False, rows, chances=THIRDS)

    def test_no_more_states_than_are_needed(self):
        upper = [
            ((0, (SEA,)), (3, 1)), ((0, (NOT_YET,)), (0, 1)), ((1, (SEA,)), (0, 1)), ((2, (lies(0, 1),)), (0, 1)),
            ((3, (lies(0, 0),)), (0, 1)),
        ]
        self.check(True, False, upper)
        for state, _ in upper:
            self.check(False, False, rows_without(upper, state))
        for state, _ in upper[2:]:
            self.check(False, False, rows_with(upper, state, None))

    def test_a_state_left_out(self):
        # For mean lower each state that can be behind some move counts.
        for state, _ in self.rows:
            self.assertIs(is_mean_lower(EBB, ONE, THIRDS, rows_without(self.rows, state)), False)

    def test_a_number_too_little_for_upper(self):
        for state, number in self.rows:
            if number is not None:
                for step in (fractions.Fraction(-1, 100), -1):
                    less = rows_with(self.rows, state, plus(number, step))
                    self.assertIs(is_mean_upper(EBB, ONE, THIRDS, less), False)
        for number in ((0, 1), (10 ** 30, 1)):
            self.assertIs(is_mean_upper(EBB, ONE, THIRDS, rows_with(self.rows, (4, (SEA,)), number)), False)

    def test_a_number_too_great_for_lower(self):
        for state, number in self.rows:
            if number is not None:
                for step in (fractions.Fraction(1, 100), 1):
                    more = rows_with(self.rows, state, plus(number, step))
                    self.assertIs(is_mean_lower(EBB, ONE, THIRDS, more), False)
                self.assertIs(is_mean_lower(EBB, ONE, THIRDS, rows_with(self.rows, state, None)), False)
        self.check(True, False, rows_with(self.rows, (0, (SEA,)), (301, 100)))
        self.check(False, True, rows_with(self.rows, (0, (SEA,)), (299, 100)))

    def test_none_in_the_first_states(self):
        self.check(True, False, rows_with(self.rows, (0, (SEA,)), None))
        self.check(True, False, [((0, (SEA,)), None), ((0, (NOT_YET,)), None)])

    def test_numbers_below_0(self):
        low = [(state, (-1, 3)) for state, _ in self.rows]
        self.check(False, True, low)
        self.check(False, True, [(state, (-10 ** 30, 7)) for state, _ in self.rows])
        # At the last hour she goes out for nothing: -1/3 is too little, and no less will do an hour ahead.
        self.check(False, False, rows_with(low, (3, (lies(0, 0),)), (1, 3)))
        self.check(False, True, rows_with(low, (3, (lies(0, 0),)), (0, 1)))

    def test_numbers_where_the_mean_one_is_none(self):
        def with_lost(*numbers):
            rows = self.rows
            for hour, number in zip((4, 3, 2), numbers):
                rows = rows_with(rows, (hour, (SEA,)), number)
            return rows

        for number in ((-7, 2), (0, 1), (22, 7)):
            self.check(False, True, with_lost(number, plus(number, 3), plus(number, 6)))
            self.check(False, False, with_lost(number, plus(number, 4), plus(number, 7)))
            self.check(False, False, with_lost(number))
        self.check(False, True, with_lost(None, (10 ** 30, 1), plus((10 ** 30, 1), 3)))
        self.check(False, False, with_lost(None, (10 ** 30, 1), None))

    def test_an_end_costs_the_move_alone(self):
        out = (3, (lies(0, 0),))
        low = [(state, (0, 1) if state[0] == 4 else (-9, 1)) for state, _ in self.rows]
        high = [((0, (SEA,)), None), ((0, (NOT_YET,)), None)]
        for number, upper, lower in (((-1, 9), False, True), ((0, 1), True, True), ((1, 9), True, False)):
            self.assertIs(is_mean_lower(EBB, ONE, THIRDS, rows_with(low, out, number)), lower)
            self.assertIs(is_mean_upper(EBB, ONE, THIRDS, high + [(out, number)]), upper)

    def test_the_states_behind_count_by_their_chances(self):
        harbour, ships = ([9, 0, 0, 9, 9, 9, 9], [5], 2, 1, 6), [(0, 5, 9, 1, 1, 6, 4)]
        chances = [[(1, 2), (1, 6), (2, 9), (1, 9)]]
        rows = mean_table(harbour, ships, chances)
        state = (0, (NOT_YET,))
        self.check(True, True, rows, harbour, ships, chances)
        self.check(True, False, rows_with(rows, state, (27, 4)), harbour, ships, chances)
        self.check(False, True, rows_with(rows, state, (33, 5)), harbour, ships, chances)
        # By the chances two of these changes weigh as much as one of the other kind.
        more = rows_with(rows_with(rows, (1, (SEA,)), (14, 1)), (1, (NOT_YET,)), (5, 1))
        self.assertIs(is_mean_upper(harbour, ships, chances, rows_with(more, state, (8, 1))), True)
        self.assertIs(is_mean_upper(harbour, ships, chances, rows_with(more, state, (799, 100))), False)

    def test_any_lists(self):
        chance = random.Random(380)
        counts = {}
        for _ in range(1000):
            harbour, ships = small_case(chance, last=chance.randint(3, 5), count=1)
            ships[0] = ship_with(ships[0], ready=0)
            chances = some_chances(chance, [chance.randint(0, 2)])
            rows = []
            shift = chance.choice([0, 0, fractions.Fraction(1, 3), fractions.Fraction(-1, 3)])
            for state, number in mean_table(harbour, ships, chances):
                if chance.random() < 0.98:
                    other = chance.choice([number] * 40 + [None, (0, 1), (chance.randint(-3, 9), 1)])
                    rows.append((state, other if other is None else plus(other, shift)))
            upper, lower = is_mean_upper(harbour, ships, chances, rows), is_mean_lower(harbour, ships, chances, rows)
            self.assertIs(upper, model_upper(harbour, ships, chances, rows))
            self.assertIs(lower, model_lower(harbour, ships, chances, rows))
            counts[(upper, lower)] = counts.get((upper, lower), 0) + 1
            self.check_bounds(harbour, ships, chances, dict(rows), upper, lower)
        self.assertEqual(len(counts), 4)
        self.assertGreater(min(counts.values()), 30)

    def test_any_lists_for_two_ships(self):
        chance = random.Random(383)
        counts = {}
        for _ in range(80):
            harbour, ships = small_case(chance, last=4, count=2)
            chances = some_chances(chance, [chance.randint(0, 2) for _ in ships])
            rows = []
            for state, number in mean_table(harbour, ships, chances):
                other = chance.choice([number] * 200 + [None, (0, 1)])
                rows.append((state, other))
            upper, lower = is_mean_upper(harbour, ships, chances, rows), is_mean_lower(harbour, ships, chances, rows)
            self.assertIs(upper, model_upper(harbour, ships, chances, rows))
            self.assertIs(lower, model_lower(harbour, ships, chances, rows))
            counts[(upper, lower)] = counts.get((upper, lower), 0) + 1
        self.assertGreater(len(counts), 2)

    def check_bounds(self, harbour, ships, chances, numbers, upper, lower):
        """What the lists show of the least mean cost."""
        cost = mean_cost(harbour, ships, chances)
        firsts = [(numbers.get(state), part) for state, part in firsts_of(ships, chances)]
        if None in [number for number, _ in firsts]:
            # A first state with None shows nothing in an upper list, and in a lower one that there is no mean cost.
            self.assertTrue(not lower or cost is None)
            return
        total = sum(fractions.Fraction(*number) * part for number, part in firsts)
        if upper:
            self.assertLessEqual(fractions.Fraction(*cost), total)
        if lower and cost is not None:
            self.assertGreaterEqual(fractions.Fraction(*cost), total)


if __name__ == "__main__":
    unittest.main()
