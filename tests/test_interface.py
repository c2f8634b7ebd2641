"""Names, arguments and files of the interface, and its examples."""

import importlib
import inspect
import unittest

from tests.helper import HARBOUR, SHIPS
from tidewaits import bounds, console, needs, promises, rules
from tidewaits.best import after_moves, best_plan, least_cost, moves_in, shows_best, table_of
from tidewaits.chances import mean_cost
from tidewaits.errors import BadText
from tidewaits.harbours import cost_of, hour_costs, wrong_in
from tidewaits.late import first_states, moves_of, states_behind, sure_cost
from tidewaits.texts import read_harbour, read_plan, timetable
from tidewaits.tides import cheapest, greatest_wait, soonest, tides

FUNCTIONS = {
    "harbours": {
        "check_harbour": ["harbour"],
        "check_ships": ["ships"],
        "depth_at": ["harbour", "hour"],
        "wrong_in": ["harbour", "ships", "plan"],
        "is_plan": ["harbour", "ships", "plan"],
        "waits": ["ships", "plan"],
        "cost_of": ["ships", "plan"],
        "hour_costs": ["ships", "plan"],
    },
    "tides": {
        "can_pass": ["harbour", "draught", "hour"],
        "tides": ["harbour", "draught", "*until"],
        "next_passing": ["harbour", "draught", "hour"],
        "turn_of": ["harbour"],
        "greatest_wait": ["harbour", "draught"],
        "soonest": ["harbour", "ship"],
        "cheapest": ["harbour", "ship"],
        "cost_alone": ["harbour", "ship"],
    },
    "texts": {
        "write_harbour": ["harbour", "ships"],
        "read_harbour": ["text"],
        "write_plan": ["plan"],
        "read_plan": ["harbour", "ships", "text"],
        "timetable": ["harbour", "ships", "plan"],
    },
    "best": {
        "beginning": ["ships"],
        "moves_in": ["harbour", "ships", "state", "*latest=None"],
        "cost_in": ["ships", "state", "moves"],
        "after_moves": ["ships", "state", "moves"],
        "rest_of": ["harbour", "ships", "state", "*latest=None"],
        "best_moves": ["harbour", "ships", "state", "*latest=None"],
        "least_cost": ["harbour", "ships", "*latest=None"],
        "best_plan": ["harbour", "ships", "*latest=None"],
        "count_plans": ["harbour", "ships", "*latest=None"],
        "count_best": ["harbour", "ships", "*latest=None"],
        "table_of": ["harbour", "ships", "*latest=None"],
        "is_table": ["harbour", "ships", "table", "*latest=None"],
        "shows_best": ["harbour", "ships", "plan", "table", "*latest=None"],
        "shows_none": ["harbour", "ships", "table", "*latest=None"],
    },
    "rules": {
        "order_of": ["ships", "rule"],
        "plan_by": ["harbour", "ships", "order"],
        "price_of": ["harbour", "ships", "order"],
        "best_orders": ["harbour", "ships"],
        "parting": ["harbour", "ships", "plan"],
    },
    "late": {
        "check_spans": ["ships", "spans"],
        "ships_at": ["ships", "coming"],
        "comings_of": ["ships", "spans"],
        "first_states": ["ships", "spans"],
        "moves_of": ["harbour", "ships", "state"],
        "cost_of_move": ["ships", "state", "move"],
        "is_end": ["state", "move"],
        "states_behind": ["harbour", "ships", "spans", "state", "move"],
        "sure_cost": ["harbour", "ships", "spans"],
        "sure_table": ["harbour", "ships", "spans"],
        "sure_rule": ["harbour", "ships", "spans"],
        "is_sure_upper": ["harbour", "ships", "spans", "rows"],
        "is_sure_lower": ["harbour", "ships", "spans", "rows"],
        "plan_by": ["harbour", "ships", "rule", "coming"],
        "cost_by": ["harbour", "ships", "rule", "coming"],
        "worst_coming": ["harbour", "ships", "spans", "rule"],
    },
    "chances": {
        "check_chances": ["ships", "chances"],
        "spans_of": ["chances"],
        "chance_of": ["ships", "chances", "coming"],
        "mean_cost": ["harbour", "ships", "chances"],
        "mean_table": ["harbour", "ships", "chances"],
        "is_mean_upper": ["harbour", "ships", "chances", "rows"],
        "is_mean_lower": ["harbour", "ships", "chances", "rows"],
        "mean_of": ["harbour", "ships", "rule", "chances"],
    },
    "needs": {
        "least_tugs": ["harbour", "ships", "*cost"],
        "least_pilots": ["harbour", "ships", "*cost"],
        "least_depth": ["harbour", "ships", "*cost"],
        "tug_steps": ["harbour", "ships"],
        "pilot_steps": ["harbour", "ships"],
        "depth_steps": ["harbour", "ships"],
        "least_pairs": ["harbour", "ships", "*cost"],
        "added_by": ["harbour", "ships"],
        "spared_by": ["harbour", "ships"],
        "greatest_draught": ["harbour", "ships", "ship", "*cost"],
    },
    "promises": {
        "latest_of": ["hours", "names"],
        "can_keep": ["harbour", "ships", "hours", "names"],
        "best_keeping": ["harbour", "ships", "hours", "names"],
        "clashes": ["harbour", "ships", "hours"],
        "clash_of": ["harbour", "ships", "hours", "names", "ship"],
        "soonest_hour": ["harbour", "ships", "hours", "names", "ship"],
        "price_of": ["harbour", "ships", "hours", "names"],
        "in_turn": ["harbour", "ships", "hours", "order"],
    },
    "bounds": {
        "group_cost": ["harbour", "ships", "names"],
        "parting_bound": ["harbour", "ships", "groups"],
        "closest_parting": ["harbour", "ships"],
        "extra_of": ["harbour", "ships", "ship"],
        "shortest_day": ["harbour", "ships"],
        "days_that_pay": ["harbour", "ships"],
    },
    "console": {
        "replay": ["harbour", "ships", "journal"],
    },
}
METHODS = {
    "__init__": ["self", "harbour", "ships"],
    "go": ["self", "hour"],
    "ship": ["self", "ship"],
    "promise": ["self", "ship", "hour"],
    "release": ["self", "ship"],
    "delay": ["self", "ship", "hour"],
    "undo": ["self"],
    "redo": ["self"],
    "do_all": ["self", "deeds"],
    "what_if": ["self", "deeds"],
    "harbour": ["self"],
    "ships": ["self"],
    "promises": ["self"],
    "plan": ["self"],
    "state": ["self"],
    "cost": ["self"],
    "journal": ["self"],
    "__len__": ["self"],
}
CLASSES = {
    "TideError": None,
    "BadSize": None,
    "BadNumber": None,
    "BadShip": ["ship"],
    "BadText": ["line", "column"],
    "NoPlan": ["word", "number"],
    "BadHour": None,
    "NotSo": None,
    "NoWay": None,
    "NothingToUndo": None,
    "NothingToRedo": None,
    "Clash": ["ships"],
    "BadEntry": ["at"],
}


def arguments_of(function):
    """The names of the arguments, behind a star if they are handed in by name alone, and with what they are if not."""
    found = []
    for name, part in inspect.signature(function).parameters.items():
        mark = "*" if part.kind == inspect.Parameter.KEYWORD_ONLY else ""
        default = "" if part.default is inspect.Parameter.empty else f"={part.default}"
        found.append(mark + name + default)
    return found


class NamesTest(unittest.TestCase):
    def test_functions_stand_in_their_files_with_their_arguments(self):
        for file, functions in FUNCTIONS.items():
            module = importlib.import_module(f"tidewaits.{file}")
            for name, arguments in functions.items():
                with self.subTest(f"{file}.{name}"):
                    function = getattr(module, name)
                    self.assertEqual(function.__module__, f"tidewaits.{file}")
                    self.assertEqual(arguments_of(function), arguments)

    def test_classes_stand_in_their_file_with_their_arguments(self):
        module = importlib.import_module("tidewaits.errors")
        for name, arguments in CLASSES.items():
            with self.subTest(name):
                found = getattr(module, name)
                self.assertEqual(found.__module__, "tidewaits.errors")
                if arguments is not None:
                    self.assertEqual(arguments_of(found), arguments)


    def test_the_console_has_its_methods_and_properties_itself(self):
        self.assertEqual(console.Console.__module__, "tidewaits.console")
        self.assertEqual(arguments_of(console.Console), ["harbour", "ships"])
        found = vars(console.Console)
        for name, arguments in METHODS.items():
            with self.subTest(name):
                self.assertEqual(arguments_of(found[name]), arguments)
        for name in ("now", "can_undo", "can_redo"):
            self.assertIsInstance(found[name], property)


class ExamplesTest(unittest.TestCase):
    def test_harbours(self):
        wrong = wrong_in(HARBOUR, SHIPS, [(0, 0, 3), (3, 0, 8)])
        self.assertEqual((wrong, wrong_in(HARBOUR, SHIPS, [(0, 0, 3), (4, 0, 8)])), (("depth", 1), None))
        plan = [(0, 0, 3), (4, 0, 8)]
        self.assertEqual((cost_of(SHIPS, plan), hour_costs(SHIPS, plan)), (10, [0, 2, 2, 2, 0, 0, 2, 2, 0]))

    def test_tides(self):
        self.assertEqual(tides(HARBOUR, 7, until=9), [(0, 1), (3, 5), (7, 9)])
        self.assertEqual(greatest_wait(HARBOUR, 8), 3)
        ship = (1, 4, 7, 3, 2, 1, 5)
        self.assertEqual((soonest(HARBOUR, ship), cheapest(HARBOUR, ship)), ((1, 0, 5), (1, 0, 5)))

    def test_texts(self):
        text = "tide 9 7 4 7\nberths 5\ntugs 2\npilots 1\nlast 20\nship 0 5 6 2 1 3 1\n"
        harbour, ships = read_harbour(text)
        self.assertEqual((harbour, ships), (([9, 7, 4, 7], [5], 2, 1, 20), [(0, 5, 6, 2, 1, 3, 1)]))
        self.assertEqual(read_plan(harbour, ships, "in 1 berth 0 out 4\n"), [(1, 0, 4)])
        told = "hour 1 depth 7 ship 0 in to 0\nhour 4 depth 9 ship 0 out of 0\ncost 3\n"
        self.assertEqual(timetable(harbour, ships, [(1, 0, 4)]), told)
        with self.assertRaises(BadText) as caught:
            read_harbour("tide 9 7\nberths  5\n")
        self.assertEqual((caught.exception.line, caught.exception.column), (2, 8))

    def test_best(self):
        self.assertEqual((least_cost(HARBOUR, SHIPS), best_plan(HARBOUR, SHIPS)), (10, [(0, 0, 3), (4, 0, 8)]))
        state = (3, ((0, 0), (-1, 0)))
        self.assertEqual(moves_in(HARBOUR, SHIPS, state), [(), ((0, -1),)])
        self.assertEqual(after_moves(SHIPS, state, ((0, -1),)), (4, ((-2, 0), (-1, 0))))
        self.assertIsNone(least_cost(HARBOUR, SHIPS, latest=[None, 7]))
        self.assertIs(shows_best(HARBOUR, SHIPS, [(0, 0, 3), (4, 0, 8)], table_of(HARBOUR, SHIPS)), True)

    def test_rules(self):
        self.assertEqual(rules.order_of(SHIPS, "short"), [1, 0])
        self.assertEqual(rules.plan_by(HARBOUR, SHIPS, [0, 1]), [(0, 0, 3), (4, 0, 8)])
        self.assertEqual(rules.price_of(HARBOUR, SHIPS, [0, 1]), 0)
        self.assertEqual(rules.best_orders(HARBOUR, SHIPS), [[0, 1], [1, 0]])
        self.assertEqual(rules.parting(HARBOUR, SHIPS, [(0, 0, 5), (8, 0, 12)]), 3)

    def test_late(self):
        self.assertEqual(first_states(SHIPS, [1, 0]), [(0, ((0,), (0,))), (0, ((1,), (0,)))])
        self.assertEqual(moves_of(HARBOUR, SHIPS, (0, ((1,), (0,)))), [(-1, -1), (0, -1)])
        behind = states_behind(HARBOUR, SHIPS, [1, 0], (0, ((1,), (0,))), (0, -1))
        self.assertEqual(behind, [(1, ((2, 0, 2), (1,)))])
        self.assertEqual((sure_cost(HARBOUR, SHIPS, [0, 0]), sure_cost(HARBOUR, SHIPS, [1, 0])), (10, 18))

    def test_chances(self):
        self.assertEqual(mean_cost(HARBOUR, SHIPS, [[(1, 4), (3, 4)], [(1, 1)]]), (16, 1))

    def test_needs(self):
        ships = [(0, 5, 6, 2, 1, 3, 1)]
        self.assertEqual((needs.least_tugs(HARBOUR, ships, cost=0), needs.tug_steps(HARBOUR, ships)), (1, [(1, 0)]))
        self.assertEqual(needs.depth_steps(HARBOUR, [(2, 5, 6, 2, 1, 3, 1)]), [(0, 4), (2, 0)])

    def test_promises(self):
        found = [promises.clashes(HARBOUR, SHIPS, hours) for hours in ([6, 8], [2, 8])]
        self.assertEqual(found, [[], [[0]]])
        self.assertEqual(promises.best_keeping(HARBOUR, SHIPS, [6, 8], [1]), (10, [(0, 0, 3), (4, 0, 8)]))
        self.assertEqual(promises.soonest_hour(HARBOUR, SHIPS, [6, 8], [1], 0), 3)
        self.assertEqual(promises.price_of(HARBOUR, SHIPS, [6, 8], [0, 1]), 0)
        self.assertEqual(promises.in_turn(HARBOUR, SHIPS, [2, 8], [0, 1]), ([1], [(0, [])]))

    def test_bounds(self):
        self.assertEqual(bounds.group_cost(HARBOUR, SHIPS, [1]), 10)
        self.assertEqual(bounds.closest_parting(HARBOUR, SHIPS), (10, [[0], [1]]))
        self.assertEqual(bounds.extra_of(HARBOUR, SHIPS, 0), 0)
        self.assertEqual(bounds.days_that_pay(HARBOUR, SHIPS), [(8, 10)])

    def test_console(self):
        found = console.Console(([9, 7, 4, 7], [5], 2, 1, 20), [(0, 5, 6, 2, 1, 3, 1)])
        told = (found.plan(), found.go(1), found.ship((1, 4, 8, 1, 2, 2, 2)), found.plan())
        self.assertEqual(told, ([(0, 0, 3)], [(0, 0, 0)], 10, [(0, 0, 3), (4, 0, 8)]))
        told = (found.promise(1, 8), found.what_if([("delay", 1, 7)]), found.cost())
        self.assertEqual(told, (0, 6, 10))


if __name__ == "__main__":
    unittest.main()
