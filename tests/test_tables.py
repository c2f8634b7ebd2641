"""Points 22 and 23: right tables, each way in which a table can be wrong, and what tables show."""

import random
import unittest

from tests.helper import HARBOUR, PLAN, SHIPS, model_after, model_moves, model_plans, model_rest, ship_with, small_case
from tidewaits.best import beginning, is_table, least_cost, rest_of, shows_best, shows_none, table_of

SEA = (-1, 0)
GONE = (-2, 0)
# One berth and five hours; a plan for the one ship, none for both.
SMALL = ([9], [5], 2, 1, 4)
ONE = [(0, 5, 9, 2, 1, 3, 4)]
# With these tides she waits at sea for an hour, then at the berth.
TIDES = ([0, 9, 9, 0, 9], [5], 2, 1, 6)
TWO_BERTHS = ([9], [5, 5], 2, 1, 4)
TWO = [ONE[0], (0, 5, 9, 1, 1, 2, 2)]


def model_states(harbour, ships, latest=None):
    """All states that can be come to from the beginning."""
    found = [(0, (SEA,) * len(ships))]
    for state in found:
        for moves in model_moves(harbour, ships, state, latest):
            behind = model_after(ships, state, moves)
            if behind not in found:
                found.append(behind)
    return sorted(found)


def with_bound(table, state, bound):
    """The table with another bound of the state, which is in it."""
    assert state in [row[:2] for row in table]
    return [(hour, places, bound if (hour, places) == state else other) for hour, places, other in table]


def without(table, state):
    return [row for row in table if row[:2] != state]


class TableOfTest(unittest.TestCase):
    def test_one_ship(self):
        expected = [
            (0, (SEA,), 0),
            (1, (SEA,), 0), (1, ((0, 2),), 0),
            (2, (SEA,), None), (2, ((0, 1),), 0), (2, ((0, 2),), 0),
            (3, (SEA,), None), (3, ((0, 0),), 0), (3, ((0, 1),), 0), (3, ((0, 2),), None),
            (4, (GONE,), 0), (4, (SEA,), None), (4, ((0, 0),), 0), (4, ((0, 1),), None), (4, ((0, 2),), None),
            (5, (GONE,), 0), (5, (SEA,), None), (5, ((0, 0),), None), (5, ((0, 1),), None), (5, ((0, 2),), None),
        ]
        self.assertEqual(table_of(SMALL, ONE), expected)

    def test_promises_leave_states_out(self):
        table = table_of(SMALL, ONE, latest=[3])
        self.assertIn((4, (GONE,), 0), table)
        self.assertNotIn((5, (GONE,)), [row[:2] for row in table])
        self.assertEqual(table[:3], [(0, (SEA,), 0), (1, (SEA,), None), (1, ((0, 2),), 0)])
        self.assertEqual(table_of(SMALL, ONE, latest=[100]), table_of(SMALL, ONE))

    def test_kinds_of_values(self):
        table = table_of(SMALL, ONE)
        self.assertEqual([type(part) for part in (table, table[0], table[0][1], table[0][1][0])], [list] + [tuple] * 3)

    def test_tables_by_the_model(self):
        chance = random.Random(23)
        for _ in range(60):
            harbour, ships = small_case(chance, last=chance.randint(3, 6))
            latest = chance.choice([None, [chance.choice([None, chance.randint(2, 6)]) for _ in ships]])
            expected = []
            for state in model_states(harbour, ships, latest):
                expected.append((*state, model_rest(harbour, ships, state, latest)))
            self.assertEqual(table_of(harbour, ships, latest=latest), expected)
            self.assertIs(is_table(harbour, ships, expected, latest=latest), True)


class WrongTablesTest(unittest.TestCase):
    def check(self, expected, table, harbour=SMALL, ships=ONE, **more):
        self.assertIs(is_table(harbour, ships, table, **more), expected)

    def setUp(self):
        self.table = table_of(SMALL, ONE)
        self.two = table_of(TWO_BERTHS, TWO)

    def test_right_tables(self):
        self.check(True, self.table)
        self.check(True, self.two, TWO_BERTHS, TWO)
        self.check(True, table_of(HARBOUR, SHIPS), HARBOUR, SHIPS)

    def test_the_empty_table(self):
        self.check(False, [])
        self.check(False, [], TWO_BERTHS, TWO)

    def test_the_order(self):
        self.check(False, self.table[::-1])
        for at in range(len(self.table) - 1):
            rows = list(self.table)
            rows[at], rows[at + 1] = rows[at + 1], rows[at]
            self.check(False, rows)
        self.check(False, self.table[1:] + self.table[:1])

    def test_a_state_twice(self):
        for at, row in enumerate(self.table):
            self.check(False, self.table[:at] + [row] + self.table[at:])
        # Also with another bound, be it that of the first or that of the second one.
        first = self.table[0]
        self.check(False, [first, first[:2] + (1,)] + self.table[1:])
        self.check(False, [first[:2] + (1,), first] + self.table[1:])
        self.check(False, self.table + self.table)

    def test_no_beginning(self):
        self.check(False, self.table[1:])
        self.check(False, [(5, (GONE,), 0)])
        self.check(False, without(self.two, beginning(TWO)), TWO_BERTHS, TWO)

    def test_an_end_with_another_bound(self):
        for hour in (4, 5):
            for bound in (1, 2, None, -1):
                self.check(False, with_bound(self.table, (hour, (GONE,)), bound))

    def test_an_end_that_is_not_come_to(self):
        for hour in (0, 1, 3):
            self.check(True, sorted(self.table + [(hour, (GONE,), 0)], key=lambda row: row[:2]))
            for bound in (1, None):
                self.check(False, sorted(self.table + [(hour, (GONE,), bound)], key=lambda row: row[:2]))

    def test_a_state_left_out(self):
        for row in self.table:
            self.check(False, without(self.table, row[:2]))
        for row in self.two:
            self.check(False, without(self.two, row[:2]), TWO_BERTHS, TWO)

    def test_a_bound_too_great(self):
        for hour, places, bound in self.table:
            if bound is not None:
                behind = with_bound(self.table, (hour, places), bound + 1)
                self.check(False, behind)

    def test_a_bound_that_is_none(self):
        for hour, places, bound in self.table:
            if bound is not None:
                self.check(False, with_bound(self.table, (hour, places), None))

    def test_a_bound_below_0(self):
        for bound in (-1, -2, -10 ** 30):
            self.check(False, with_bound(self.table, beginning(ONE), bound))
            self.check(False, with_bound(self.table, (5, (SEA,), None)[:2], bound))
        self.check(False, self.table[:-1] + [(5, ((0, 2),), -1)])

    def test_lesser_bounds(self):
        low = [(hour, places, 0) for hour, places, _ in self.table]
        self.check(True, low)
        tides = table_of(TIDES, ONE)
        self.assertEqual(tides[0], (0, (SEA,), 3))
        self.assertIn((4, ((0, 0),), 0), tides)
        for bound in (0, 1, 2, 3):
            self.check(True, with_bound(tides, beginning(ONE), bound), TIDES, ONE)
        for bound in (4, 100, None):
            self.check(False, with_bound(tides, beginning(ONE), bound), TIDES, ONE)

    def test_a_bound_between_costs(self):
        # To wait costs 4 there, to go out nothing, and behind the waiting nothing comes.
        state = (4, ((0, 0),))
        self.check(True, with_bound(self.table, state, 0))
        self.check(False, with_bound(self.table, state, 1))
        waits = (3, ((0, 0),))
        self.check(False, with_bound(self.table, waits, 1))

    def check_at_sea(self, expected, *bounds):
        """The table with these bounds for the hours 2 to 4 at sea, from which there is no plan, and one behind."""
        rows = self.table
        for state, bound in zip([(2, (SEA,)), (3, (SEA,)), (4, (SEA,)), (5, ((0, 2),))], bounds):
            rows = with_bound(rows, state, bound)
        self.check(expected, rows)

    def test_none_behind_is_greater_than_each_number(self):
        self.check_at_sea(True, None, None, None)
        self.check_at_sea(True, 10 ** 30, None, None)
        self.check_at_sea(True, 10 ** 30 + 6, 10 ** 30 + 3, 10 ** 30)
        self.check_at_sea(False, 10 ** 30, 10 ** 30 + 4, 10 ** 30)
        self.check_at_sea(False, None, 3, 0)
        self.check_at_sea(False, 6, None, 0)

    def test_bounds_behind_the_last_hour(self):
        self.check_at_sea(True, 13, 10, 7, 7)
        self.check_at_sea(False, 13, 10, 8, 7)
        self.check_at_sea(True, 0, 0, 0, 10 ** 30)
        self.check_at_sea(False, 0, 0, 0, -1)


class NoStatesTest(unittest.TestCase):
    """Rows that are no state, each of which would be right if it were one: behind the last hour, or ends."""

    def check(self, expected, row, harbour=TWO_BERTHS, ships=TWO):
        table = table_of(harbour, ships)
        rows = sorted([other for other in table if other[:2] != row[:2]] + [row], key=lambda other: other[:2])
        self.assertIs(is_table(harbour, ships, rows), expected, row)

    def test_rows_that_are_states(self):
        self.check(True, (0, (GONE, GONE), 0))
        self.check(True, (5, (GONE, GONE), 0))
        for bound in (0, 3, None, 10 ** 30):
            self.check(True, (5, ((1, 0), GONE), bound), TWO_BERTHS, [TWO[0], ship_with(TWO[1], ready=20)])
            self.check(True, (5, ((1, 2), (0, 1)), bound), TWO_BERTHS, [ship_with(ONE[0], length=9), TWO[1]])
            self.check(True, (5, ((0, 2), (1, 1)), bound), TWO_BERTHS, [ship_with(ONE[0], length=9), TWO[1]])

    def test_hours(self):
        self.check(False, (-1, (GONE, GONE), 0))
        self.check(False, (6, (GONE, GONE), 0))
        self.check(False, (6, (SEA, GONE), None))
        self.check(False, (-10 ** 30, (GONE, GONE), 0))
        self.check(False, (10 ** 30, (GONE, GONE), 0))

    def test_the_number_of_places(self):
        for hour in (0, 3, 5):
            self.check(False, (hour, (), 0))
            self.check(False, (hour, (GONE,), 0))
            self.check(False, (hour, (GONE, GONE, GONE), 0))
        self.check(False, (5, (SEA,), None))
        self.check(False, (5, (SEA, SEA, SEA), None))

    def test_two_ships_at_one_berth(self):
        three = [TWO[0], TWO[1], TWO[1]]
        for left in (0, 1):
            self.check(False, (5, ((0, left), (0, 0)), 0))
            self.check(False, (5, ((1, left), (1, 1)), None))
            self.check(False, (5, ((1, left), SEA, (1, 1)), None), TWO_BERTHS, three)
        self.check(True, (5, ((1, 1), SEA, (0, 1)), None), TWO_BERTHS, three)

    def test_a_berth_that_is_not_there(self):
        for berth in (2, 3, 10 ** 30, -3, -4, -10 ** 30):
            self.check(False, (5, ((berth, 0), GONE), 0))
            self.check(False, (5, (SEA, (berth, 0)), None))
        self.check(False, (5, ((1, 0),), 0), SMALL, ONE)
        self.check(True, (5, ((0, 0),), 0), SMALL, [ship_with(ONE[0], length=6)])

    def test_hours_left(self):
        never = [ship_with(ONE[0], length=6), TWO[1]]
        for left in (0, 1, 2):
            self.check(True, (5, ((0, left), SEA), 0), TWO_BERTHS, never)
        for left in (3, 4, -1, 10 ** 30, -10 ** 30):
            self.check(False, (5, ((0, left), SEA), 0), TWO_BERTHS, never)
        self.check(False, (5, (SEA, (0, 2)), None))
        for left in (1, 2, -1):
            self.check(False, (5, ((-1, left), SEA), None))
            self.check(False, (5, (GONE, (-2, left)), None))

    def test_a_bound_below_0(self):
        never = [ship_with(ONE[0], length=6), TWO[1]]
        self.check(True, (5, ((0, 0), SEA), 0), TWO_BERTHS, never)
        self.check(False, (5, ((0, 0), SEA), -1), TWO_BERTHS, never)


class PromisedTablesTest(unittest.TestCase):
    def test_right_with_promises_alone(self):
        ships = [ONE[0], ship_with(TWO[1], sea=1)]
        harbour = ([9], [5], 2, 1, 8)
        promised = table_of(harbour, ships, latest=[None, 3])
        free = table_of(harbour, ships)
        self.assertEqual((promised[0][2], free[0][2]), (9, 4))
        self.assertIs(is_table(harbour, ships, promised, latest=[None, 3]), True)
        self.assertIs(is_table(harbour, ships, promised), False)
        self.assertIs(is_table(harbour, ships, promised, latest=[None, 4]), False)
        self.assertIs(is_table(harbour, ships, promised, latest=[None, None]), False)
        # With fewer moves less is asked of a table.
        self.assertIs(is_table(harbour, ships, free), True)
        self.assertIs(is_table(harbour, ships, free, latest=[None, 3]), True)

    def test_a_plan_that_breaks_a_promise_is_not_shown(self):
        table = table_of(HARBOUR, SHIPS)
        for latest in (None, [None, None], [3, 8], [None, 8], [100, 100]):
            self.assertIs(shows_best(HARBOUR, SHIPS, PLAN, table, latest=latest), True)
        for latest in ([2, None], [None, 7], [2, 8], [0, 0]):
            self.assertIs(shows_best(HARBOUR, SHIPS, PLAN, table, latest=latest), False)

    def test_what_is_shown_with_promises(self):
        ships = [ONE[0], ship_with(TWO[1], sea=1)]
        harbour = ([9], [5], 2, 1, 8)
        table = table_of(harbour, ships, latest=[None, 3])
        plan = [(3, 0, 6), (0, 0, 2)]
        self.assertIs(shows_best(harbour, ships, plan, table, latest=[None, 3]), True)
        self.assertIs(shows_best(harbour, ships, plan, table), False)
        self.assertIs(shows_best(harbour, ships, plan, table_of(harbour, ships)), False)
        self.assertIs(shows_best(harbour, ships, [(0, 0, 3), (4, 0, 6)], table_of(harbour, ships)), True)
        self.assertIs(shows_best(harbour, ships, [(0, 0, 3), (4, 0, 6)], table, latest=[None, 3]), False)
        none = table_of(harbour, ships, latest=[3, 3])
        self.assertIs(shows_none(harbour, ships, none, latest=[3, 3]), True)
        self.assertIs(shows_none(harbour, ships, none), False)


class ShowsTest(unittest.TestCase):
    def check(self, expected, plan, table, harbour=HARBOUR, ships=SHIPS):
        self.assertIs(shows_best(harbour, ships, plan, table), expected)

    def setUp(self):
        self.table = table_of(HARBOUR, SHIPS)

    def test_a_best_plan(self):
        self.check(True, PLAN, self.table)

    def test_a_plan_that_is_not_best(self):
        for plan in ([(0, 0, 3), (4, 0, 12)], [(0, 0, 3), (8, 0, 12)], [(13, 0, 16), (4, 0, 8)]):
            self.check(False, plan, self.table)

    def test_lists_that_are_no_plans(self):
        for plan in (
            [(0, 0, 3), (3, 0, 8)], [(0, 0, 3), (1, 0, 8)], [(0, 0, 2), (4, 0, 8)], [(0, 1, 3), (4, 0, 8)],
            [(0, 0, 4), (4, 0, 8)], [(-1, 0, 3), (4, 0, 8)], [(0, -1, 3), (4, 0, 8)], [(0, 0, 3), (4, 0, 24)],
            [], [(0, 0, 3)], PLAN + [(12, 0, 16)],
        ):
            self.check(False, plan, self.table)

    def test_lists_that_cost_as_much_and_are_no_plans(self):
        # Each ship alone could do so, but not both.
        harbour, ships = ([9], [5], 2, 1, 9), [ONE[0], ship_with(ONE[0], ready=3)]
        table = table_of(harbour, ships)
        self.assertEqual(table[0][2], 3)
        self.check(True, [(0, 0, 3), (4, 0, 7)], table, harbour, ships)
        self.check(False, [(1, 0, 4), (3, 0, 6)], table, harbour, ships)

    def test_a_table_that_is_not_right(self):
        self.check(False, PLAN, [])
        self.check(False, PLAN, self.table[1:])
        self.check(False, PLAN, self.table[:-1])
        self.check(False, PLAN, [self.table[0]])
        self.check(False, [(0, 0, 3), (4, 0, 12)], with_bound(self.table, beginning(SHIPS), 18))

    def test_a_right_table_that_does_not_reach_the_cost(self):
        low = with_bound(self.table, beginning(SHIPS), 9)
        self.assertIs(is_table(HARBOUR, SHIPS, low), True)
        self.check(False, PLAN, low)

    def test_a_table_that_has_more_than_it_needs(self):
        more = sorted(self.table + [(0, (GONE, GONE), 0)], key=lambda row: row[:2])
        self.assertEqual(more[0], (0, (GONE, GONE), 0))
        self.check(True, PLAN, more)
        self.assertIs(shows_none(HARBOUR, SHIPS, more), False)

    def test_that_there_is_no_plan(self):
        both = ONE + ONE
        table = table_of(SMALL, both)
        self.assertIs(shows_none(SMALL, both, table), True)
        self.check(False, [(0, 0, 3), (0, 0, 3)], table, SMALL, both)
        self.assertIs(shows_none(SMALL, both, with_bound(table, beginning(both), 5)), False)
        self.assertIs(shows_none(SMALL, both, []), False)
        self.assertIs(shows_none(SMALL, both, table[:-1]), False)
        self.assertIs(shows_none(SMALL, ONE, table_of(SMALL, ONE)), False)
        self.assertIs(shows_none(SMALL, ONE, with_bound(table_of(SMALL, ONE), beginning(ONE), None)), False)

    def test_a_right_table_never_tells_too_much(self):
        chance = random.Random(230)
        right = wrong = 0
        for _ in range(1500):
            harbour, ships = small_case(chance, last=chance.randint(3, 5))
            rows = []
            for hour, places, bound in table_of(harbour, ships):
                other = chance.choice([bound] * 60 + [None, 0, chance.randint(0, 9)])
                rows.append((hour, places, other))
            if is_table(harbour, ships, rows):
                right += 1
                for hour, places, bound in rows:
                    rest = rest_of(harbour, ships, (hour, places))
                    self.assertTrue(rest is None or bound is not None and bound <= rest)
            else:
                wrong += 1
        self.assertGreater(min(right, wrong), 100)

    def test_best_plans_are_shown_and_no_others(self):
        chance = random.Random(231)
        for _ in range(40):
            harbour, ships = small_case(chance, last=5)
            table = table_of(harbour, ships)
            least = least_cost(harbour, ships)
            self.assertIs(shows_none(harbour, ships, table), least is None)
            for plan in model_plans(harbour, ships):
                shown = shows_best(harbour, ships, plan, table)
                self.assertIs(shown, least == sum_of(ships, plan))


def sum_of(ships, plan):
    """The cost of the plan, from its waits."""
    total = 0
    for (ready, length, draught, stay, tugs, sea, lie), (came, berth, left) in zip(ships, plan):
        total += (came - ready) * sea + (left - came - stay - 1) * lie
    return total


if __name__ == "__main__":
    unittest.main()
