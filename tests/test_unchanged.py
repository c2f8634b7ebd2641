"""No argument is changed, and what is returned can be changed without changing a later answer."""

import copy
import unittest

from tests.helper import HARBOUR, PLAN, SHIPS
from tidewaits import best, bounds, chances, console, harbours, late, needs, promises, rules, texts, tides
from tidewaits.errors import Clash

TEXT = "tide 9 7 4 7\nberths 5\ntugs 2\npilots 1\nlast 20\nship 0 5 6 2 1 3 1\nship 1 4 8 1 2 2 2\n"
SHIP = (1, 4, 7, 3, 2, 1, 5)
LATEST = [None, 12]
STATE = (3, ((0, 0), (-1, 0)))
SPANS = [1, 2]
CHANCES = [[(1, 4), (3, 4)], [(1, 2), (0, 1), (1, 2)]]
TWO_BERTHS = ([9, 7, 4, 7], [5, 6], 2, 1, 20)
HOURS = [6, 12]
# Two ships that cannot both be gone by the hour 4.
TIGHT = ([9], [9], 3, 3, 9)
TIGHT_SHIPS = [(0, 1, 0, 1, 0, 1, 1), (0, 1, 0, 1, 0, 1, 1)]
# A state of ships that come when they come, and what belongs to it.
REACHED = (0, ((1,), (0,)))
RULE = late.sure_rule(HARBOUR, SHIPS, SPANS)
SURE = late.sure_table(HARBOUR, SHIPS, SPANS)
MEANS = chances.mean_table(HARBOUR, SHIPS, CHANCES)
CALLS = [
    (harbours.check_harbour, [HARBOUR], {}),
    (harbours.check_ships, [SHIPS], {}),
    (harbours.depth_at, [HARBOUR, 7], {}),
    (harbours.wrong_in, [HARBOUR, SHIPS, PLAN], {}),
    (harbours.wrong_in, [HARBOUR, SHIPS, [(0, 0, 3), (3, 0, 8)]], {}),
    (harbours.is_plan, [HARBOUR, SHIPS, PLAN], {}),
    (harbours.waits, [SHIPS, PLAN], {}),
    (harbours.cost_of, [SHIPS, PLAN], {}),
    (harbours.hour_costs, [SHIPS, PLAN], {}),
    (tides.can_pass, [HARBOUR, 7, 2], {}),
    (tides.tides, [HARBOUR, 7], {"until": 9}),
    (tides.tides, [HARBOUR, 10], {"until": 9}),
    (tides.next_passing, [HARBOUR, 8, 3], {}),
    (tides.turn_of, [HARBOUR], {}),
    (tides.greatest_wait, [HARBOUR, 8], {}),
    (tides.soonest, [HARBOUR, SHIP], {}),
    (tides.cheapest, [HARBOUR, SHIP], {}),
    (tides.cost_alone, [HARBOUR, SHIP], {}),
    (texts.write_harbour, [HARBOUR, SHIPS], {}),
    (texts.read_harbour, [TEXT], {}),
    (texts.write_plan, [PLAN], {}),
    (texts.read_plan, [HARBOUR, SHIPS, "in 0 berth 0 out 3\nin 4 berth 0 out 8\n"], {}),
    (texts.timetable, [HARBOUR, SHIPS, PLAN], {}),
    (best.beginning, [SHIPS], {}),
    (best.moves_in, [HARBOUR, SHIPS, STATE], {"latest": LATEST}),
    (best.cost_in, [SHIPS, STATE, ((0, -1),)], {}),
    (best.after_moves, [SHIPS, STATE, ((0, -1),)], {}),
    (best.rest_of, [HARBOUR, SHIPS, STATE], {"latest": LATEST}),
    (best.best_moves, [HARBOUR, SHIPS, STATE], {"latest": LATEST}),
    (best.least_cost, [HARBOUR, SHIPS], {"latest": LATEST}),
    (best.best_plan, [HARBOUR, SHIPS], {"latest": LATEST}),
    (best.count_plans, [HARBOUR, SHIPS], {"latest": LATEST}),
    (best.count_best, [HARBOUR, SHIPS], {"latest": LATEST}),
    (best.table_of, [HARBOUR, SHIPS], {"latest": LATEST}),
    (best.is_table, [HARBOUR, SHIPS, best.table_of(HARBOUR, SHIPS)], {"latest": LATEST}),
    (best.shows_best, [HARBOUR, SHIPS, PLAN, best.table_of(HARBOUR, SHIPS)], {"latest": LATEST}),
    (best.shows_none, [HARBOUR, SHIPS, best.table_of(HARBOUR, SHIPS)], {"latest": LATEST}),
    (rules.order_of, [SHIPS, "short"], {}),
    (rules.plan_by, [HARBOUR, SHIPS, [1, 0]], {}),
    (rules.price_of, [HARBOUR, SHIPS, [1, 0]], {}),
    (rules.best_orders, [HARBOUR, SHIPS], {}),
    (rules.parting, [HARBOUR, SHIPS, [(0, 0, 5), (8, 0, 12)]], {}),
    (late.check_spans, [SHIPS, SPANS], {}),
    (late.ships_at, [SHIPS, [1, 2]], {}),
    (late.comings_of, [SHIPS, SPANS], {}),
    (late.first_states, [SHIPS, SPANS], {}),
    (late.moves_of, [HARBOUR, SHIPS, REACHED], {}),
    (late.cost_of_move, [SHIPS, REACHED, (-1, -1)], {}),
    (late.is_end, [REACHED, (-1, -1)], {}),
    (late.states_behind, [HARBOUR, SHIPS, SPANS, REACHED, (-1, -1)], {}),
    (late.sure_cost, [HARBOUR, SHIPS, SPANS], {}),
    (late.sure_table, [HARBOUR, SHIPS, SPANS], {}),
    (late.sure_rule, [HARBOUR, SHIPS, SPANS], {}),
    (late.is_sure_upper, [HARBOUR, SHIPS, SPANS, SURE], {}),
    (late.is_sure_lower, [HARBOUR, SHIPS, SPANS, SURE], {}),
    (late.plan_by, [HARBOUR, SHIPS, RULE, [1, 2]], {}),
    (late.cost_by, [HARBOUR, SHIPS, RULE, [1, 2]], {}),
    (late.worst_coming, [HARBOUR, SHIPS, SPANS, RULE], {}),
    (chances.check_chances, [SHIPS, CHANCES], {}),
    (chances.spans_of, [CHANCES], {}),
    (chances.chance_of, [SHIPS, CHANCES, [1, 2]], {}),
    (chances.mean_cost, [HARBOUR, SHIPS, CHANCES], {}),
    (chances.mean_table, [HARBOUR, SHIPS, CHANCES], {}),
    (chances.is_mean_upper, [HARBOUR, SHIPS, CHANCES, MEANS], {}),
    (chances.is_mean_lower, [HARBOUR, SHIPS, CHANCES, MEANS], {}),
    (chances.mean_of, [HARBOUR, SHIPS, RULE, CHANCES], {}),
    (needs.least_tugs, [HARBOUR, SHIPS], {"cost": 10}),
    (needs.least_pilots, [HARBOUR, SHIPS], {"cost": 10}),
    (needs.least_depth, [HARBOUR, SHIPS], {"cost": 6}),
    (needs.tug_steps, [HARBOUR, SHIPS], {}),
    (needs.pilot_steps, [HARBOUR, SHIPS], {}),
    (needs.depth_steps, [HARBOUR, SHIPS], {}),
    (needs.least_pairs, [HARBOUR, SHIPS], {"cost": 10}),
    (needs.added_by, [HARBOUR, SHIPS], {}),
    (needs.spared_by, [TWO_BERTHS, SHIPS], {}),
    (needs.greatest_draught, [HARBOUR, SHIPS, 0], {"cost": 12}),
    (promises.latest_of, [HOURS, [1]], {}),
    (promises.can_keep, [HARBOUR, SHIPS, HOURS, [0, 1]], {}),
    (promises.best_keeping, [HARBOUR, SHIPS, HOURS, [0, 1]], {}),
    (promises.clashes, [HARBOUR, SHIPS, [2, 7]], {}),
    (promises.clash_of, [TIGHT, TIGHT_SHIPS, [2, 4], [0], 1], {}),
    (promises.soonest_hour, [HARBOUR, SHIPS, HOURS, [1], 0], {}),
    (promises.price_of, [HARBOUR, SHIPS, HOURS, [0, 1]], {}),
    (promises.in_turn, [TIGHT, TIGHT_SHIPS, [2, 4], [0, 1]], {}),
    (bounds.group_cost, [HARBOUR, SHIPS, [0, 1]], {}),
    (bounds.parting_bound, [HARBOUR, SHIPS, [[0], [1]]], {}),
    (bounds.closest_parting, [HARBOUR, SHIPS], {}),
    (bounds.extra_of, [HARBOUR, SHIPS, 1], {}),
    (bounds.shortest_day, [HARBOUR, SHIPS], {}),
    (bounds.days_that_pay, [HARBOUR, SHIPS], {}),
]
JOURNAL = [("go", 1), ("promise", 1, 9), ("undo",), ("redo",), ("delay", 1, 3), ("ship", (2, *SHIP[1:]))]


def spoil(value):
    """Change all lists in a value."""
    if isinstance(value, (list, tuple)):
        for part in value:
            spoil(part)
    if isinstance(value, list):
        value.append("spoilt")
        value.reverse()


def lists_in(value):
    """All lists in a value, itself with them."""
    found = [value] if isinstance(value, list) else []
    if isinstance(value, (list, tuple)):
        for part in value:
            found.extend(lists_in(part))
    return found


class UnchangedTest(unittest.TestCase):
    def test_arguments_stay_as_they_are(self):
        for function, arguments, more in CALLS:
            with self.subTest(function.__name__):
                handed, told = copy.deepcopy((arguments, more))
                function(*handed, **told)
                self.assertEqual((handed, told), (arguments, more))

    def test_arguments_stay_as_they_are_when_an_error_is_raised(self):
        harbour = ([9, 41, 3], [5, 4], 7, 0, 41)
        ships = [SHIP, (1, 0, 7, 3, 2, 1, 5), SHIP]
        handed = copy.deepcopy((harbour, ships))
        for check, value in zip((harbours.check_harbour, harbours.check_ships), handed):
            with self.assertRaises(ValueError):
                check(value)
        self.assertEqual(handed, (harbour, ships))
        spans, rows = [0, 4], [[(1, 1)], [(1, 2), (2, 4)]]
        for check, value in ((late.check_spans, spans), (chances.check_chances, rows)):
            with self.assertRaises(ValueError):
                check(SHIPS, value)
        self.assertEqual((spans, rows), ([0, 4], [[(1, 1)], [(1, 2), (2, 4)]]))

    def test_what_is_returned_may_be_changed(self):
        for function, arguments, more in CALLS:
            with self.subTest(function.__name__):
                handed = copy.deepcopy(arguments)
                first = function(*handed, **more)
                kept = copy.deepcopy(first)
                spoil(first)
                self.assertEqual(handed, arguments)
                self.assertEqual(function(*handed, **more), kept)

    def test_what_is_returned_shares_no_list(self):
        for function, arguments, more in CALLS:
            with self.subTest(function.__name__):
                handed = copy.deepcopy(arguments)
                first, second = function(*handed, **more), function(*handed, **more)
                known = lists_in(first) + lists_in(handed)
                for found in lists_in(second):
                    self.assertFalse(any(found is one for one in known))

    def test_an_answer_follows_a_changed_argument(self):
        harbour = copy.deepcopy(HARBOUR)
        self.assertEqual(tides.turn_of(harbour), 4)
        self.assertEqual(harbours.depth_at(harbour, 0), 9)
        harbour[0][:] = [3, 3]
        harbour[1][0] = 1
        self.assertEqual(tides.turn_of(harbour), 1)
        self.assertEqual(harbours.depth_at(harbour, 0), 3)
        self.assertEqual(tides.greatest_wait(harbour, 3), 0)
        self.assertIsNone(tides.soonest(harbour, SHIP))

    def test_a_best_plan_follows_a_changed_argument(self):
        harbour, ships, latest = copy.deepcopy((HARBOUR, SHIPS, [None, None]))
        self.assertEqual(best.least_cost(harbour, ships, latest=latest), 10)
        self.assertEqual(late.sure_cost(harbour, ships, [1, 0]), 18)
        latest[1] = 7
        self.assertIsNone(best.least_cost(harbour, ships, latest=latest))
        self.assertEqual(best.least_cost(harbour, ships), 10)
        harbour[0][:] = [9]
        self.assertEqual(best.least_cost(harbour, ships), 6)
        self.assertEqual(best.best_plan(harbour, ships), [(0, 0, 3), (4, 0, 6)])
        ships[1] = (1, 4, 8, 1, 2, 9, 2)
        self.assertEqual(best.best_plan(harbour, ships), [(4, 0, 7), (1, 0, 3)])
        ships.pop()
        self.assertEqual(best.best_plan(harbour, ships), [(0, 0, 3)])

    def test_needs_promises_and_bounds_follow_a_changed_argument(self):
        harbour, ships, hours, names = copy.deepcopy((HARBOUR, SHIPS, [6, 8], [0]))
        self.assertEqual(needs.least_tugs(harbour, ships, cost=10), 2)
        self.assertEqual(promises.price_of(harbour, ships, hours, names), 0)
        self.assertEqual(bounds.shortest_day(harbour, ships), 8)
        ships.pop()
        self.assertEqual(needs.least_tugs(harbour, ships, cost=10), 1)
        self.assertEqual(bounds.shortest_day(harbour, ships), 3)
        hours[0] = 2
        self.assertIsNone(promises.price_of(harbour, ships, hours, names))
        names.pop()
        self.assertEqual(promises.price_of(harbour, ships, hours, names), 0)

    def test_a_console_leaves_its_arguments_as_they_are(self):
        handed = copy.deepcopy((HARBOUR, SHIPS, JOURNAL))
        harbour, ships, journal = handed
        one, other = console.Console(harbour, ships), console.replay(harbour, ships, journal)
        one.what_if(journal)
        one.do_all(journal)
        self.assertEqual(handed, (HARBOUR, SHIPS, JOURNAL))
        for found in (one, other):
            self.assertEqual((found.journal(), found.harbour()), (JOURNAL, HARBOUR))
        known = lists_in(handed) + lists_in([one.harbour(), one.ships(), one.plan(), one.promises(), one.journal()])
        for found in lists_in([one.harbour(), one.ships(), one.plan(), one.promises(), one.journal()]):
            self.assertFalse(any(found is one for one in known))

    def test_the_ships_of_a_clash(self):
        ships = [0, 2]
        self.assertEqual(Clash(ships).ships, [0, 2])
        self.assertEqual(ships, [0, 2])


if __name__ == "__main__":
    unittest.main()
