"""Points 13 to 15: the texts of harbours with ships, and their reading."""

import random
import unittest

from tests.helper import HARBOUR, SHIPS, error_of, some_harbour, some_ship
from tidewaits.errors import BadNumber, BadShip, BadSize, BadText
from tidewaits.texts import read_harbour, write_harbour

LINES = [
    "tide 9 7 4 7",
    "berths 5 6",
    "tugs 2",
    "pilots 1",
    "last 20",
    "ship 0 5 6 2 1 3 1",
    "ship 10 4 8 1 2 2 2",
]
# Signs that Python counts as digits stand among these, too.
NO_NUMBERS = [
    "", "x", "-1", "+1", "1.0", "1,", "00", "01", "007", "0000", "1000", "12345", "0x1", "1_0", "1e1", "None",
    "\t1", "1\t", "1\r", "\u0663", "\u00b2", "\uff11", "1\u00a0", "\u2028", "1\x0b2", "1\x0c", "\x1c",
]
NO_WORDS = ["", "x", "Tide", "SHIP", "tides", "tid", "5", "\ttide", "\ufefftide"]


def text_of(lines):
    return "".join([line + "\n" for line in lines])


def with_line(at, line):
    return text_of(LINES[:at] + [line] + LINES[at + 1:])


def column_of(words, at):
    return len(" ".join(words[:at] + [""])) + 1 if at else 1


class WriteTest(unittest.TestCase):
    def test_text(self):
        text = "tide 9 7 4 7\nberths 5\ntugs 2\npilots 1\nlast 20\nship 0 5 6 2 1 3 1\nship 1 4 8 1 2 2 2\n"
        self.assertEqual(write_harbour(HARBOUR, SHIPS), text)

    def test_least_and_most_numbers(self):
        text = "tide 0\nberths 1\ntugs 0\npilots 1\nlast 1\nship 0 1 0 1 0 0 0\n"
        self.assertEqual(write_harbour(([0], [1], 0, 1, 1), [(0, 1, 0, 1, 0, 0, 0)]), text)
        text = "tide" + " 40" * 12 + "\nberths 9 9\ntugs 6\npilots 3\nlast 40\n" + "ship 20 9 40 4 3 9 9\n" * 3
        self.assertEqual(write_harbour(([40] * 12, [9, 9], 6, 3, 40), [(20, 9, 40, 4, 3, 9, 9)] * 3), text)

    def test_each_number_has_its_place(self):
        text = "tide 10 11\nberths 2 3\ntugs 4\npilots 3\nlast 35\nship 15 6 17 4 2 8 9\n"
        self.assertEqual(write_harbour(([10, 11], [2, 3], 4, 3, 35), [(15, 6, 17, 4, 2, 8, 9)]), text)


class ReadTest(unittest.TestCase):
    def test_what_is_read(self):
        harbour, ships = read_harbour(text_of(LINES))
        self.assertEqual(harbour, ([9, 7, 4, 7], [5, 6], 2, 1, 20))
        self.assertEqual(ships, [(0, 5, 6, 2, 1, 3, 1), (10, 4, 8, 1, 2, 2, 2)])

    def test_kinds_of_values(self):
        found = read_harbour(text_of(LINES))
        self.assertIs(type(found), tuple)
        harbour, ships = found
        kinds = [type(part) for part in harbour] + [type(harbour), type(ships)] + [type(ship) for ship in ships]
        self.assertEqual(kinds, [list, list, int, int, int, tuple, list, tuple, tuple])

    def test_each_number_has_its_place(self):
        text = "tide 10 11\nberths 2 3\ntugs 4\npilots 3\nlast 35\nship 15 6 17 4 2 8 9\n"
        self.assertEqual(read_harbour(text), (([10, 11], [2, 3], 4, 3, 35), [(15, 6, 17, 4, 2, 8, 9)]))

    def test_reading_what_was_written(self):
        chance = random.Random(15)
        for _ in range(500):
            harbour = some_harbour(chance)
            ships = [some_ship(chance) for _ in range(chance.randint(1, 3))]
            text = write_harbour(harbour, ships)
            self.assertEqual(read_harbour(text), (harbour, ships))
            self.assertEqual(write_harbour(*read_harbour(text)), text)

    def test_writing_what_was_read(self):
        for count in (6, 7):
            text = text_of(LINES[:count])
            self.assertEqual(write_harbour(*read_harbour(text)), text)


class FormTest(unittest.TestCase):
    def check(self, line, column, text):
        found = error_of(read_harbour, text)
        self.assertIs(type(found), BadText, text)
        self.assertEqual((found.line, found.column), (line, column), text)

    def test_the_first_word_of_each_line(self):
        for at, line in enumerate(LINES):
            for word in NO_WORDS:
                wrong = word + line[len(line.split(" ")[0]):]
                if wrong != line:
                    self.check(at + 1, 1, with_line(at, wrong))
                    self.check(at + 1, 1, with_line(at, word))

    def test_lines_in_another_order(self):
        self.check(1, 1, text_of([LINES[1], LINES[0]] + LINES[2:]))
        self.check(3, 1, text_of(LINES[:2] + [LINES[3], LINES[2]] + LINES[4:]))
        self.check(5, 1, text_of(LINES[:4] + [LINES[5], LINES[4]]))
        self.check(6, 1, text_of(LINES[:5] + LINES[4:]))
        self.check(2, 1, text_of(LINES[:1] + LINES))
        self.check(8, 1, text_of(LINES + LINES[:1]))

    def test_words_that_are_no_numbers(self):
        for at, line in enumerate(LINES):
            words = line.split(" ")
            for place in range(1, len(words)):
                for word in NO_NUMBERS:
                    wrong = words[:place] + [word] + words[place + 1:]
                    self.check(at + 1, column_of(words, place), with_line(at, " ".join(wrong)))

    def test_numbers_are_such(self):
        for number in ("0", "1", "9", "10", "99", "100", "909", "999"):
            for at, line in enumerate(LINES):
                words = line.split(" ")
                for place in range(1, len(words)):
                    text = with_line(at, " ".join(words[:place] + [number] + words[place + 1:]))
                    self.assertNotIsInstance(error_of(read_harbour, text), BadText, text)

    def test_words_too_many(self):
        for at in range(2, len(LINES)):
            for word in ("1", "0", "x", "ship", "01"):
                self.check(at + 1, len(LINES[at]) + 2, with_line(at, f"{LINES[at]} {word}"))
                self.check(at + 1, len(LINES[at]) + 2, with_line(at, f"{LINES[at]} {word} 1 x"))

    def test_tide_and_berths_can_have_any_number_of_numbers(self):
        for at in (0, 1):
            for count in range(20):
                text = with_line(at, LINES[at].split(" ")[0] + " 1" * count)
                self.assertNotIsInstance(error_of(read_harbour, text), BadText, text)
            self.check(at + 1, len(LINES[at]) + 12, with_line(at, LINES[at] + " 1 1 1 1 1 x 1"))

    def test_words_that_are_missing(self):
        for at in range(2, len(LINES)):
            words = LINES[at].split(" ")
            for count in range(1, len(words)):
                line = " ".join(words[:count])
                self.check(at + 1, len(line) + 1, with_line(at, line))

    def test_the_first_wrong_word_of_a_line(self):
        self.check(6, 8, with_line(5, "ship 0 x 6 2 y 3 1"))
        self.check(6, 1, with_line(5, "shop 0 x 6 2 y 3 1"))
        self.check(6, 6, with_line(5, "ship x 5"))
        self.check(6, 20, with_line(5, "ship 0 5 6 2 1 3 1 x 01"))
        self.check(6, 6, with_line(5, "ship x 5 6 2 1 3 1 1 1"))
        self.check(3, 6, with_line(2, "tugs two 2"))

    def test_the_first_wrong_line(self):
        self.check(2, 8, text_of(["tide 9", "berths x", "tugs", "pilots 01"]))
        self.check(3, 5, text_of(["tide 9", "berths 5", "tugs", "pilots 01"]))
        self.check(4, 8, text_of(["tide 9", "berths 5", "tugs 1", "pilots 01", "x"]))
        self.check(1, 6, "tide x 01\n")

    def test_empty_words(self):
        self.check(1, 1, with_line(0, " tide 9 7"))
        self.check(1, 6, with_line(0, "tide  9 7"))
        self.check(1, 8, with_line(0, "tide 9  7"))
        self.check(1, 10, with_line(0, "tide 9 7 "))
        self.check(1, 6, with_line(0, "tide "))
        self.check(2, 8, with_line(1, "berths "))
        self.check(3, 6, with_line(2, "tugs "))
        self.check(3, 6, with_line(2, "tugs  2"))
        self.check(3, 8, with_line(2, "tugs 2 "))
        self.check(3, 8, with_line(2, "tugs 2  "))
        self.check(4, 1, with_line(3, " pilots 1"))
        self.check(6, 20, with_line(5, "ship 0 5 6 2 1 3 1 "))
        self.check(6, 18, with_line(5, "ship 0 5 6 2 1 3 "))
        self.check(6, 6, with_line(5, "ship  "))
        for at in range(len(LINES)):
            self.check(at + 1, 1, with_line(at, " "))
            self.check(at + 1, 1, with_line(at, "  "))

    def test_empty_lines(self):
        for at in range(len(LINES) + 1):
            self.check(at + 1, 1, text_of(LINES[:at] + [""] + LINES[at:]))
        self.check(1, 1, "\n")
        self.check(1, 1, "\n\n")
        self.check(6, 1, text_of(LINES[:5]) + "\n")

    def test_only_a_newline_ends_a_line(self):
        self.check(1, 12, text_of(LINES).replace("\n", "\r\n"))
        self.check(1, 12, text_of(LINES).replace("\n", "\r"))
        self.check(1, 12, text_of(LINES).replace("\n", "\x0b"))
        self.check(5, 6, text_of(LINES).replace("20\n", "20\u2028"))
        self.check(1, 1, text_of(LINES).replace(" ", "\t"))

    def test_missing_lines(self):
        self.check(1, 1, "")
        for count in range(5):
            self.check(count + 1, 1, text_of(LINES[:count]))

    def test_no_newline_at_the_end(self):
        for count in range(1, len(LINES) + 1):
            self.check(count, len(LINES[count - 1]) + 1, text_of(LINES[:count])[:-1])
        self.check(1, 5, "tide")
        self.check(2, 7, "tide 9\nberths")

    def test_no_newline_goes_behind_what_else_is_wrong(self):
        self.check(7, 6, text_of(LINES[:6]) + "ship x 4 8 1 2 2 2")
        self.check(7, 1, text_of(LINES[:6]) + "shop 1 4 8 1 2 2 2")
        self.check(7, 20, text_of(LINES[:6]) + "ship 1 4 8 1 2 2 2 ")
        self.check(7, 9, text_of(LINES[:6]) + "ship 1 4")
        self.check(3, 6, "tide 9\nberths 5\ntugs x")
        self.check(1, 8, "tide 9 ")
        self.check(1, 6, text_of(LINES).replace("9 7", "x 7")[:-1])

    def test_each_beginning_of_a_text(self):
        text = text_of(LINES)
        for end in range(len(text)):
            if text[:end] in (text_of(LINES[:5]), text_of(LINES[:6])):
                continue
            rows = text[:end].split("\n")
            word = LINES[len(rows) - 1].split(" ")[0]
            broken = len(rows[-1]) < len(word)
            self.check(len(rows), 1 if broken else len(rows[-1]) + 1, text[:end])

    def test_any_number_of_ships_is_of_the_form(self):
        for count in range(12):
            found = error_of(read_harbour, text_of(LINES[:5] + LINES[5:6] * count))
            self.assertNotIsInstance(found, BadText)
        self.check(17, 6, text_of(LINES[:5] + LINES[5:6] * 11 + ["ship x"]))


class CheckedTest(unittest.TestCase):
    """The errors of the checks behind a right form."""

    def check(self, error, at, line):
        self.assertIs(type(error_of(read_harbour, with_line(at, line))), error, line)

    def test_harbours(self):
        self.check(BadSize, 0, "tide")
        self.check(BadSize, 0, "tide" + " 1" * 13)
        self.check(BadNumber, 0, "tide 9 41")
        self.check(BadNumber, 0, "tide 999")
        self.check(BadSize, 1, "berths")
        self.check(BadSize, 1, "berths 1 1 1")
        self.check(BadNumber, 1, "berths 0")
        self.check(BadNumber, 1, "berths 5 10")
        self.check(BadNumber, 2, "tugs 7")
        self.check(BadNumber, 3, "pilots 0")
        self.check(BadNumber, 3, "pilots 4")
        self.check(BadNumber, 4, "last 0")
        self.check(BadNumber, 4, "last 41")

    def test_the_order_of_the_checks(self):
        rest = LINES[2:]
        self.assertIs(type(error_of(read_harbour, text_of(["tide 41", "berths"] + rest))), BadNumber)
        self.assertIs(type(error_of(read_harbour, text_of(["tide", "berths 0"] + rest))), BadSize)

    def test_the_number_of_ships(self):
        for count in (0, 4, 7):
            text = text_of(LINES[:5] + LINES[5:6] * count)
            self.assertIs(type(error_of(read_harbour, text)), BadSize)

    def test_ships(self):
        wrong = [(1, "21"), (2, "0"), (2, "10"), (3, "41"), (4, "0"), (4, "5"), (5, "4"), (6, "10"), (7, "100")]
        for name in (0, 1):
            for place, number in wrong:
                words = LINES[5 + name].split(" ")
                words[place] = number
                found = error_of(read_harbour, with_line(5 + name, " ".join(words)))
                self.assertIs(type(found), BadShip)
                self.assertEqual(found.ship, name)

    def test_the_harbour_goes_ahead_of_the_ships(self):
        lines = LINES[:4] + ["last 41"]
        self.assertIs(type(error_of(read_harbour, text_of(lines))), BadNumber)
        self.assertIs(type(error_of(read_harbour, text_of(lines + ["ship 99 9 9 9 9 9 9"]))), BadNumber)

    def test_the_form_goes_ahead_of_the_checks(self):
        for first in ("tide", "tide 41"):
            found = error_of(read_harbour, text_of([first] + LINES[1:6] + ["ship 1 2 3"]))
            self.assertIs(type(found), BadText)
            self.assertEqual((found.line, found.column), (7, 11))
            found = error_of(read_harbour, text_of([first] + LINES[1:])[:-1])
            self.assertEqual((found.line, found.column), (7, 20))
            found = error_of(read_harbour, text_of([first, "berths"]))
            self.assertEqual((found.line, found.column), (3, 1))


if __name__ == "__main__":
    unittest.main()
