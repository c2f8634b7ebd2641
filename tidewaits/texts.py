"""The texts of harbours with ships and of plans, and timetables."""

from tidewaits.errors import BadText, NoPlan
from tidewaits.harbours import check_harbour, check_ships, cost_of, depth_at, wrong_in

# Shapes are written so that they look like the lines that they stand for:
# these two marks stand for one number, and for any number of numbers.
NUMBER = "#"
NUMBERS = ".."

HEAD_SHAPES = ("tide ..", "berths ..", "tugs #", "pilots #", "last #")
SHIP_SHAPE = "ship # # # # # # #"
PLAN_SHAPE = "in # berth # out #"
# Where no line may stand, its first word is already one too many.
NO_SHAPE = ""


def _line_of(word, numbers):
    return " ".join([word] + [str(number) for number in numbers]) + "\n"


def write_harbour(harbour, ships):
    """Return the text of the harbour with the ships."""
    depths, berths, tugs, pilots, last = harbour
    lines = [
        _line_of("tide", depths),
        _line_of("berths", berths),
        _line_of("tugs", [tugs]),
        _line_of("pilots", [pilots]),
        _line_of("last", [last]),
    ]
    return "".join(lines + [_line_of("ship", ship) for ship in ships])


def _is_number(word):
    # Signs beyond ASCII can be digits for Python, too.
    if not word.isascii() or not word.isdigit() or len(word) > 3:
        return False
    return len(word) == 1 or word[0] != "0"


def _fits(word, wanted):
    if wanted == NUMBER:
        return _is_number(word)
    return word == wanted


def _words_of(shape, count):
    """Return the words of the shape, for a line with this count of words."""
    wanted = shape.split()
    if NUMBERS in wanted:
        return wanted[:-1] + [NUMBER] * (count - 1)
    return wanted


def _read_line(line, shape, number):
    """Return the numbers of the line with this number, or raise BadText if it is not of the shape."""
    words = line.split(" ")
    wanted = _words_of(shape, len(words))
    found = []
    column = 1
    for at, word in enumerate(words):
        if at >= len(wanted) or not _fits(word, wanted[at]):
            raise BadText(number, column)
        if wanted[at] == NUMBER:
            found.append(int(word))
        column += len(word) + 1
    if len(words) < len(wanted):
        raise BadText(number, len(line) + 1)
    return found


def _lines_of(text):
    lines = text.split("\n")
    # Behind the last newline, and in the text without any sign, no line begins.
    if lines[-1] == "":
        return lines[:-1]
    return lines


def _read_lines(text, shapes, further):
    """Return the numbers of each line: one line for each shape, then any lines of the further shape."""
    lines = _lines_of(text)
    found = []
    for at, line in enumerate(lines):
        shape = shapes[at] if at < len(shapes) else further
        found.append(_read_line(line, shape, at + 1))
    if lines and not text.endswith("\n"):
        raise BadText(len(lines), len(lines[-1]) + 1)
    if len(lines) < len(shapes):
        raise BadText(len(lines) + 1, 1)
    return found


def read_harbour(text):
    """Return the tuple of the harbour and the list of the ships that the text tells."""
    rows = _read_lines(text, HEAD_SHAPES, SHIP_SHAPE)
    depths, berths, tugs, pilots, last = rows[:5]
    harbour = (depths, berths, tugs[0], pilots[0], last[0])
    ships = [tuple(row) for row in rows[5:]]
    check_harbour(harbour)
    check_ships(ships)
    return (harbour, ships)


def write_plan(plan):
    """Return the text of the plan."""
    return "".join([f"in {came} berth {berth} out {left}\n" for came, berth, left in plan])


def read_plan(harbour, ships, text):
    """Return the plan for the harbour and the ships that the text tells."""
    rows = _read_lines(text, [PLAN_SHAPE] * len(ships), NO_SHAPE)
    plan = [tuple(row) for row in rows]
    wrong = wrong_in(harbour, ships, plan)
    if wrong is not None:
        word, number = wrong
        raise NoPlan(word, number)
    return plan


def timetable(harbour, ships, plan):
    """Return the timetable of the plan."""
    moves = []
    for ship, (came, berth, left) in enumerate(plan):
        moves.append((came, ship, f"in to {berth}"))
        moves.append((left, ship, f"out of {berth}"))
    lines = []
    for hour, ship, words in sorted(moves):
        lines.append(f"hour {hour} depth {depth_at(harbour, hour)} ship {ship} {words}\n")
    lines.append(f"cost {cost_of(ships, plan)}\n")
    return "".join(lines)
