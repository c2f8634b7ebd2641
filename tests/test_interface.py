"""Names, arguments and files of the interface, and its examples."""

import importlib
import inspect
import unittest

from tests.helper import HARBOUR, SHIPS
from tidewaits.errors import BadText
from tidewaits.harbours import cost_of, hour_costs, wrong_in
from tidewaits.texts import read_harbour, read_plan, timetable
from tidewaits.tides import cheapest, greatest_wait, soonest, tides

FUNCTIONS = {
    "harbours": {
        "check_harbour": ["harbour"],
        "check_ships": ["ships"],
        "depth_at": ["harbour", "hour"],
        "wrong_in": ["harbour", "ships", "plan"],
        "is_plan": ["harbour", "ships", "plan"],
        "waits": ["ships", "plan"],
        "cost_of": ["ships", "plan"],
        "hour_costs": ["ships", "plan"],
    },
    "tides": {
        "can_pass": ["harbour", "draught", "hour"],
        "tides": ["harbour", "draught", "*until"],
        "next_passing": ["harbour", "draught", "hour"],
        "turn_of": ["harbour"],
        "greatest_wait": ["harbour", "draught"],
        "soonest": ["harbour", "ship"],
        "cheapest": ["harbour", "ship"],
        "cost_alone": ["harbour", "ship"],
    },
    "texts": {
        "write_harbour": ["harbour", "ships"],
        "read_harbour": ["text"],
        "write_plan": ["plan"],
        "read_plan": ["harbour", "ships", "text"],
        "timetable": ["harbour", "ships", "plan"],
    },
}
CLASSES = {
    "TideError": None,
    "BadSize": None,
    "BadNumber": None,
    "BadShip": ["ship"],
    "BadText": ["line", "column"],
    "NoPlan": ["word", "number"],
    "BadHour": None,
    "NotSo": None,
    "NoWay": None,
    "NothingToUndo": None,
    "NothingToRedo": None,
    "Clash": ["ships"],
    "BadEntry": ["at"],
}


def arguments_of(function):
    marks = {inspect.Parameter.KEYWORD_ONLY: "*"}
    return [marks.get(part.kind, "") + name for name, part in inspect.signature(function).parameters.items()]


class NamesTest(unittest.TestCase):
    def test_functions_stand_in_their_files_with_their_arguments(self):
        for file, functions in FUNCTIONS.items():
            module = importlib.import_module(f"tidewaits.{file}")
            for name, arguments in functions.items():
                with self.subTest(f"{file}.{name}"):
                    function = getattr(module, name)
                    self.assertEqual(function.__module__, f"tidewaits.{file}")
                    self.assertEqual(arguments_of(function), arguments)

    def test_classes_stand_in_their_file_with_their_arguments(self):
        module = importlib.import_module("tidewaits.errors")
        for name, arguments in CLASSES.items():
            with self.subTest(name):
                found = getattr(module, name)
                self.assertEqual(found.__module__, "tidewaits.errors")
                if arguments is not None:
                    self.assertEqual(arguments_of(found), arguments)


class ExamplesTest(unittest.TestCase):
    def test_harbours(self):
        wrong = wrong_in(HARBOUR, SHIPS, [(0, 0, 3), (3, 0, 8)])
        self.assertEqual((wrong, wrong_in(HARBOUR, SHIPS, [(0, 0, 3), (4, 0, 8)])), (("depth", 1), None))
        plan = [(0, 0, 3), (4, 0, 8)]
        self.assertEqual((cost_of(SHIPS, plan), hour_costs(SHIPS, plan)), (10, [0, 2, 2, 2, 0, 0, 2, 2, 0]))

    def test_tides(self):
        self.assertEqual(tides(HARBOUR, 7, until=9), [(0, 1), (3, 5), (7, 9)])
        self.assertEqual(greatest_wait(HARBOUR, 8), 3)
        ship = (1, 4, 7, 3, 2, 1, 5)
        self.assertEqual((soonest(HARBOUR, ship), cheapest(HARBOUR, ship)), ((1, 0, 5), (1, 0, 5)))

    def test_texts(self):
        text = "tide 9 7 4 7\nberths 5\ntugs 2\npilots 1\nlast 20\nship 0 5 6 2 1 3 1\n"
        harbour, ships = read_harbour(text)
        self.assertEqual((harbour, ships), (([9, 7, 4, 7], [5], 2, 1, 20), [(0, 5, 6, 2, 1, 3, 1)]))
        self.assertEqual(read_plan(harbour, ships, "in 1 berth 0 out 4\n"), [(1, 0, 4)])
        told = "hour 1 depth 7 ship 0 in to 0\nhour 4 depth 9 ship 0 out of 0\ncost 3\n"
        self.assertEqual(timetable(harbour, ships, [(1, 0, 4)]), told)
        with self.assertRaises(BadText) as caught:
            read_harbour("tide 9 7\nberths  5\n")
        self.assertEqual((caught.exception.line, caught.exception.column), (2, 8))


if __name__ == "__main__":
    unittest.main()
