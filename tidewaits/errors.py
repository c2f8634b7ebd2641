"""The errors that the program raises."""


class TideError(ValueError):
    """The base class of all errors of the program."""


class BadSize(TideError):
    """A list has too few or too many members."""


class BadNumber(TideError):
    """A value is no whole number within its bounds."""


class BadShip(TideError):
    """The ship with this name, or what was handed in as a name, is wrong."""

    def __init__(self, ship):
        self.ship = ship


class BadText(TideError):
    """The form of a text is wrong at this line and column, both from 1 on."""

    def __init__(self, line, column):
        self.line = line
        self.column = column


class NoPlan(TideError):
    """A list is no plan: the word and the number tell what is wrong with it."""

    def __init__(self, word, number):
        self.word = word
        self.number = number


class BadHour(TideError):
    """An hour is none that can be told here."""


class NotSo(TideError):
    """What a deed takes for granted is not so."""


class NoWay(TideError):
    """There is no way in which all ships can go out."""


class NothingToUndo(TideError):
    """There is no deed in force."""


class NothingToRedo(TideError):
    """There is no deed that was undone and can be done again."""


class Clash(TideError):
    """A promise cannot be kept together with those to these ships."""

    def __init__(self, ships):
        self.ships = list(ships)


class BadEntry(TideError):
    """The entry of a journal at this position cannot be done."""

    def __init__(self, at):
        self.at = at
