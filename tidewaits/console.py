"""The console: deeds that are done one after another, undone, redone, and written in a journal."""

from tidewaits.deeds import (
    cost_in_all, delay_ship, first_standing, go_on, make_promise, plan_in, release_ship, state_in, tell_ship,
)
from tidewaits.errors import BadEntry, NothingToRedo, NothingToUndo, TideError
from tidewaits.harbours import check_harbour, check_ships

# A log is a tuple (standings, at, journal): a list of what the console had behind its making and behind each deed
# that is in force or can be redone, the position in it of what it has now, and the journal. Its lists are never
# changed, so a console is as it was as long as no other log is put in place of its own one.


def _undone(log):
    """Return the log behind an undo."""
    standings, at, journal = log
    if at == 0:
        raise NothingToUndo()
    return (standings, at - 1, journal + [("undo",)])


def _redone(log):
    """Return the log behind a redo."""
    standings, at, journal = log
    if at == len(standings) - 1:
        raise NothingToRedo()
    return (standings, at + 1, journal + [("redo",)])


def _deed_of(harbour, log, entry):
    """Return the standing behind the deed that the entry tells, and what is told by it."""
    standings, at, journal = log
    match entry:
        case ("go", hour):
            return go_on(harbour, standings[at], hour)
        case ("ship", ship):
            return tell_ship(harbour, standings[at], ship)
        case ("promise", ship, hour):
            return make_promise(harbour, standings[at], ship, hour)
        case ("release", ship):
            return release_ship(harbour, standings[at], ship)
        case ("delay", ship, hour):
            return delay_ship(harbour, standings[at], ship, hour)
    raise BadEntry(len(journal))


def _done(harbour, log, entry):
    """Return the log behind a deed that is no undo and no redo, and what is told by it."""
    standings, at, journal = log
    standing, told = _deed_of(harbour, log, entry)
    return ((standings[:at + 1] + [standing], at + 1, journal + [entry]), told)


def _all_done(harbour, log, entries):
    """Return the log behind all of the entries."""
    for entry in entries:
        if entry == ("undo",):
            log = _undone(log)
        elif entry == ("redo",):
            log = _redone(log)
        else:
            log, _ = _done(harbour, log, entry)
    return log


class Console:
    """A harbour with its ships, in which time goes on."""

    def __init__(self, harbour, ships):
        check_harbour(harbour)
        check_ships(ships)
        depths, berths, tugs, pilots, last = harbour
        self._harbour = (list(depths), list(berths), tugs, pilots, last)
        self._log = ([first_standing(self._harbour, ships)], 0, [])

    def _standing(self):
        standings, at, _ = self._log
        return standings[at]

    def _do(self, entry):
        """Do the deed of the entry, and return what is told by it."""
        self._log, told = _done(self._harbour, self._log, entry)
        return told

    def go(self, hour):
        """Let the time go on to the hour. Return what is done by then."""
        return self._do(("go", hour))

    def ship(self, ship):
        """Tell one ship more. Return by how much the cost rises."""
        return self._do(("ship", ship))

    def promise(self, ship, hour):
        """Promise that the ship goes out at the hour at the latest. Return by how much the cost rises."""
        return self._do(("promise", ship, hour))

    def release(self, ship):
        """Take back the promise to the ship. Return by how much the cost falls."""
        return self._do(("release", ship))

    def delay(self, ship, hour):
        """Make the hour the ready of the ship. Return the ships whose promises do not stay."""
        return self._do(("delay", ship, hour))

    def undo(self):
        """Lead back to what was ahead of the last deed in force."""
        self._log = _undone(self._log)

    def redo(self):
        """Lead on to what was behind the deed that was undone last."""
        self._log = _redone(self._log)

    def do_all(self, deeds):
        """Do all of the list of entries, or none of them."""
        self._log = _all_done(self._harbour, self._log, deeds)

    def what_if(self, deeds):
        """Return the cost that the plan would have if the list of entries were done."""
        standings, at, _ = _all_done(self._harbour, self._log, deeds)
        return cost_in_all(standings[at])

    def harbour(self):
        """Return the harbour."""
        depths, berths, tugs, pilots, last = self._harbour
        return (list(depths), list(berths), tugs, pilots, last)

    def ships(self):
        """Return the ships."""
        return list(self._standing()[0])

    def promises(self):
        """Return the promise, or None, of each ship."""
        return list(self._standing()[2])

    def plan(self):
        """Return the plan."""
        return plan_in(self._standing())

    def state(self):
        """Return the state."""
        return state_in(self._standing())

    def cost(self):
        """Return the cost of the plan."""
        return cost_in_all(self._standing())

    def journal(self):
        """Return the journal."""
        return list(self._log[2])

    @property
    def now(self):
        """The hour."""
        return self._standing()[1]

    @property
    def can_undo(self):
        """Whether there is a deed in force."""
        return self._log[1] > 0

    @property
    def can_redo(self):
        """Whether there is a deed that can be redone."""
        return self._log[1] < len(self._log[0]) - 1

    def __len__(self):
        return len(self._standing()[0])


def replay(harbour, ships, journal):
    """Return the console to which the journal leads."""
    console = Console(harbour, ships)
    for at, entry in enumerate(journal):
        try:
            console.do_all([entry])
        except TideError:
            raise BadEntry(at) from None
    return console
