"""Points 16 and 17: the texts of plans, their reading, and timetables."""

import random
import unittest

from tests.helper import HARBOUR, PLAN, SHIPS, error_of, harbour_with, model_cost, model_plans, ship_with
from tidewaits.errors import BadText, NoPlan
from tidewaits.texts import read_plan, timetable, write_plan

TEXT = "in 0 berth 0 out 3\nin 4 berth 0 out 8\n"
WIDE = ([9, 9, 9, 5, 9], [7, 4], 3, 2, 18)
LIGHT = (0, 1, 0, 1, 1, 1, 1)
LONG = (2, 7, 6, 2, 1, 1, 1)
NO_NUMBERS = ["", "x", "-1", "+1", "00", "01", "1000", "1.0", "in", "\u0663", "\u00b2", "1\r"]


class WriteTest(unittest.TestCase):
    def test_text(self):
        self.assertEqual(write_plan(PLAN), TEXT)
        self.assertEqual(write_plan([(1, 0, 4)]), "in 1 berth 0 out 4\n")

    def test_any_tuples_of_numbers(self):
        self.assertEqual(write_plan([]), "")
        text = "in 999 berth 0 out 10\nin 0 berth 999 out 0\nin 5 berth 12 out 999\nin 1 berth 2 out 3\n"
        self.assertEqual(write_plan([(999, 0, 10), (0, 999, 0), (5, 12, 999), (1, 2, 3)]), text)

    def test_reading_what_was_written(self):
        harbour = ([3, 1, 2], [2, 1], 2, 2, 11)
        ships = [(1, 2, 2, 1, 1, 1, 1), (0, 1, 3, 1, 1, 1, 1)]
        plans = model_plans(harbour, ships)
        self.assertGreater(len(plans), 20)
        for plan in plans:
            text = write_plan(plan)
            self.assertEqual(read_plan(harbour, ships, text), plan)
            self.assertEqual(write_plan(read_plan(harbour, ships, text)), text)


class FormTest(unittest.TestCase):
    def check(self, line, column, text, ships=SHIPS):
        found = error_of(read_plan, HARBOUR, ships, text)
        self.assertIs(type(found), BadText, text)
        self.assertEqual((found.line, found.column), (line, column), text)

    def test_what_is_read(self):
        self.assertEqual(read_plan(HARBOUR, SHIPS, TEXT), PLAN)
        found = read_plan(HARBOUR, SHIPS[:1], "in 11 berth 0 out 15\n")
        self.assertEqual(found, [(11, 0, 15)])
        self.assertEqual((type(found), type(found[0])), (list, tuple))

    def test_each_word_of_a_line(self):
        words = ["in", "4", "berth", "0", "out", "8"]
        columns = [1, 4, 6, 12, 14, 18]
        for place, column in enumerate(columns):
            wrong = NO_NUMBERS if place in (1, 3, 5) else ["", "x", "0", "In", "to", "in,"]
            for word in wrong:
                line = " ".join(words[:place] + [word] + words[place + 1:])
                self.check(2, column, f"in 0 berth 0 out 3\n{line}\n")
                self.check(1, column, f"{line}\nin 0 berth 0 out 3\n")

    def test_words_that_stand_at_other_places(self):
        self.check(1, 1, "out 0 berth 0 in 3\n", SHIPS[:1])
        self.check(1, 6, "in 0 out 3 berth 0\n", SHIPS[:1])
        self.check(1, 14, "in 0 berth 0 berth 3\n", SHIPS[:1])
        self.check(1, 4, "in berth 0 out 3\n", SHIPS[:1])
        self.check(1, 6, "in 0 0 3\n", SHIPS[:1])

    def test_words_that_are_missing(self):
        words = ["in", "0", "berth", "0", "out", "3"]
        for count in range(1, 6):
            line = " ".join(words[:count])
            self.check(1, len(line) + 1, f"{line}\n", SHIPS[:1])
            self.check(1, len(line) + 1, line, SHIPS[:1])
            self.check(1, len(line) + 1, f"{line}\nin 4 berth 0 out 8\n")

    def test_words_too_many(self):
        for word in ("1", "x", "in", ""):
            self.check(1, 20, f"in 0 berth 0 out 3 {word}\n", SHIPS[:1])
            self.check(1, 20, f"in 0 berth 0 out 3 {word}\nin 4 berth 0 out 8\n")
            self.check(1, 20, f"in 0 berth 0 out 3 {word} x", SHIPS[:1])

    def test_empty_words(self):
        self.check(1, 1, " in 0 berth 0 out 3\n", SHIPS[:1])
        self.check(1, 4, "in  0 berth 0 out 3\n", SHIPS[:1])
        self.check(1, 6, "in 0  berth 0 out 3\n", SHIPS[:1])
        self.check(1, 18, "in 0 berth 0 out \n", SHIPS[:1])

    def test_lines_that_are_missing(self):
        self.check(1, 1, "", SHIPS[:1])
        self.check(1, 1, "")
        self.check(2, 1, "in 0 berth 0 out 3\n")
        self.check(3, 1, TEXT, SHIPS + SHIPS[:1])

    def test_a_line_too_many(self):
        for line in ("in 9 berth 0 out 12\n", "\n", "x\n", " \n", "in 9", " "):
            self.check(3, 1, TEXT + line)
            self.check(3, 1, TEXT + line + "\n")
            self.check(2, 1, "in 0 berth 0 out 3\n" + line, SHIPS[:1])
        self.check(2, 1, TEXT, SHIPS[:1])

    def test_empty_lines(self):
        self.check(1, 1, "\n")
        self.check(1, 1, "\n" + TEXT)
        self.check(2, 1, TEXT.replace("\n", "\n\n"))

    def test_no_newline_at_the_end(self):
        self.check(2, 19, TEXT[:-1])
        self.check(1, 19, "in 0 berth 0 out 3")
        self.check(1, 19, "in 0 berth 0 out 3", SHIPS[:1])
        self.check(2, 18, "in 0 berth 0 out 3\nin 4 berth 0 out x")

    def test_each_beginning_of_a_text(self):
        words = ["in", "0", "berth", "0", "out", "3"]
        line = " ".join(words)
        begun = [(1, 1), (1, 1), (1, 3), (1, 4), (1, 5), (1, 6), (1, 6), (1, 6), (1, 6), (1, 6), (1, 11), (1, 12)]
        begun += [(1, 13), (1, 14), (1, 14), (1, 14), (1, 17), (1, 18), (1, 19)]
        self.assertEqual(len(begun), len(line) + 1)
        for end, (number, column) in enumerate(begun):
            self.check(number, column, line[:end], SHIPS[:1])

    def test_the_first_wrong_line(self):
        self.check(1, 4, "in x berth 0 out 3\nin y berth 0 out 3\nx\n")
        self.check(2, 4, "in 0 berth 0 out 3\nin y berth 0 out 3\nx\n")

    def test_the_form_goes_ahead_of_what_is_wrong_with_the_list(self):
        self.check(2, 19, "in 0 berth 9 out 1\nin 4 berth 0 out 8")
        self.check(2, 1, "in 0 berth 9 out 1\n")
        self.check(3, 1, "in 0 berth 9 out 1\nin 4 berth 0 out 8\n\n")


class NoPlanTest(unittest.TestCase):
    def check(self, word, number, ships, plan, harbour=WIDE):
        text = "".join([f"in {came} berth {berth} out {left}\n" for came, berth, left in plan])
        found = error_of(read_plan, harbour, ships, text)
        self.assertIs(type(found), NoPlan, text)
        self.assertEqual((found.word, found.number), (word, number), text)

    def test_each_thing_that_is_wrong(self):
        self.assertEqual(read_plan(WIDE, [LONG], "in 2 berth 0 out 5\n"), [(2, 0, 5)])
        self.check("early", 0, [LONG], [(1, 0, 5)])
        self.check("early", 0, [LONG], [(2, 0, 4)])
        self.check("late", 0, [LONG], [(2, 0, 19)])
        self.check("late", 0, [LONG], [(2, 0, 999)])
        self.check("berth", 0, [LONG], [(2, 1, 5)])
        self.check("berth", 0, [LONG], [(2, 999, 5)])
        self.check("depth", 0, [LONG], [(3, 0, 6)])
        self.check("taken", 1, [LONG, LIGHT], [(2, 0, 5), (5, 0, 7)])
        self.check("tugs", 7, [LIGHT, ship_with(LIGHT, tugs=3)], [(4, 0, 7), (7, 1, 9)])
        self.check("pilots", 7, [LIGHT, LIGHT], [(4, 0, 7), (7, 1, 9)], harbour_with(WIDE, pilots=1))

    def test_each_ship(self):
        for name in range(3):
            plan = [(0, 0, 2), (3, 0, 5), (6, 0, 8)]
            plan[name] = (plan[name][0], 0, 19)
            self.check("late", name, [LIGHT] * 3, plan)

    def test_the_first_thing_is_told(self):
        self.check("early", 0, [LONG, LIGHT], [(0, 5, 19), (0, 1, 1)])
        self.check("late", 1, [LONG, LIGHT], [(2, 0, 5), (2, 5, 19)])


class TimetableTest(unittest.TestCase):
    def test_one_ship(self):
        told = "hour 1 depth 7 ship 0 in to 0\nhour 4 depth 9 ship 0 out of 0\ncost 3\n"
        self.assertEqual(timetable(HARBOUR, SHIPS[:1], [(1, 0, 4)]), told)

    def test_two_ships(self):
        told = (
            "hour 0 depth 9 ship 0 in to 0\n"
            "hour 3 depth 7 ship 0 out of 0\n"
            "hour 4 depth 9 ship 1 in to 0\n"
            "hour 8 depth 9 ship 1 out of 0\n"
            "cost 10\n"
        )
        self.assertEqual(timetable(HARBOUR, SHIPS, PLAN), told)

    def test_moves_stand_by_their_hours_not_by_the_ships(self):
        told = (
            "hour 1 depth 9 ship 1 in to 1\n"
            "hour 2 depth 9 ship 0 in to 0\n"
            "hour 9 depth 9 ship 1 out of 1\n"
            "hour 11 depth 9 ship 0 out of 0\n"
            "cost 13\n"
        )
        self.assertEqual(timetable(WIDE, [LONG, LIGHT], [(2, 0, 11), (1, 1, 9)]), told)

    def test_two_moves_in_one_hour(self):
        told = (
            "hour 0 depth 9 ship 1 in to 1\n"
            "hour 4 depth 9 ship 0 in to 0\n"
            "hour 4 depth 9 ship 1 out of 1\n"
            "hour 7 depth 9 ship 0 out of 0\n"
            "cost 4\n"
        )
        self.assertEqual(timetable(WIDE, [LONG, LIGHT], [(4, 0, 7), (0, 1, 4)]), told)
        told = (
            "hour 4 depth 9 ship 0 in to 1\n"
            "hour 6 depth 9 ship 0 out of 1\n"
            "hour 6 depth 9 ship 1 in to 0\n"
            "hour 9 depth 9 ship 1 out of 0\n"
            "cost 8\n"
        )
        self.assertEqual(timetable(WIDE, [LIGHT, LONG], [(4, 1, 6), (6, 0, 9)]), told)
        told = (
            "hour 2 depth 9 ship 0 in to 1\n"
            "hour 2 depth 9 ship 1 in to 0\n"
            "hour 5 depth 9 ship 0 out of 1\n"
            "hour 5 depth 9 ship 1 out of 0\n"
            "cost 3\n"
        )
        self.assertEqual(timetable(WIDE, [LIGHT, LONG], [(2, 1, 5), (2, 0, 5)]), told)

    def test_depths_of_the_hours(self):
        harbour = harbour_with(WIDE, depths=[1, 20, 3, 40])
        told = (
            "hour 0 depth 1 ship 2 in to 1\n"
            "hour 5 depth 20 ship 0 in to 0\n"
            "hour 7 depth 40 ship 0 out of 0\n"
            "hour 10 depth 3 ship 1 in to 0\n"
            "hour 17 depth 20 ship 2 out of 1\n"
            "hour 18 depth 3 ship 1 out of 0\n"
            "cost 36\n"
        )
        self.assertEqual(timetable(harbour, [LIGHT] * 3, [(5, 0, 7), (10, 0, 18), (0, 1, 17)]), told)

    def test_all_plans_of_a_small_harbour(self):
        chance = random.Random(17)
        harbour = ([3, 1, 2], [2, 1], 2, 2, 11)
        ships = [(1, 2, 2, 1, 1, 3, 1), (0, 1, 3, 1, 1, 1, 4)]
        plans = model_plans(harbour, ships)
        for plan in chance.sample(plans, 60):
            rows = timetable(harbour, ships, plan).split("\n")
            self.assertEqual(rows[-2:], [f"cost {model_cost(ships, plan)}", ""])
            moves = []
            for hour in range(12):
                for name, (came, berth, left) in enumerate(plan):
                    if hour in (came, left):
                        where = f"in to {berth}" if hour == came else f"out of {berth}"
                        moves.append(f"hour {hour} depth {[3, 1, 2][hour % 3]} ship {name} {where}")
            self.assertEqual(rows[:-2], moves)


if __name__ == "__main__":
    unittest.main()
