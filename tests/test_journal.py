"""Points 61 and 62: undo and redo, lists of deeds, what would be if, the journal and replaying."""

import copy
import random
import unittest

from tests.all_plans import Model, Wrong, console_case, some_deed
from tests.consoles import LIGHT, ROW, ConsoleTest, row_of, shown, so_now
from tests.helper import HARBOUR, NO_WHOLE_NUMBERS, SHIPS, error_of, harbour_with, ship_with
from tidewaits.console import Console, replay
from tidewaits.errors import (
    BadEntry, BadHour, BadNumber, BadShip, BadSize, Clash, NothingToRedo, NothingToUndo, NotSo, NoWay, TideError,
)

DEEDS = [
    ("promise", 0, 6), ("go", 1), ("ship", (1, 4, 8, 1, 2, 2, 2)), ("promise", 1, 13), ("delay", 1, 5),
    ("release", 0), ("go", 4), ("release", 1), ("go", 21),
]
# A deed for each error that deeds can raise, for two ships of which the first one is at the berth at the hour 1.
WRONG = [
    (("go", 0), BadHour), (("go", 22), BadHour), (("go", True), BadHour), (("promise", 2, 8), BadShip),
    (("promise", True, 8), BadShip), (("promise", 1, 101), BadHour), (("promise", 0, 8), NotSo),
    (("promise", 1, 7), Clash), (("release", -1), BadShip), (("release", 1), NotSo), (("delay", None, 8), BadShip),
    (("delay", 0, 8), NotSo), (("delay", 1, 0), BadHour), (("delay", 1, 18), NoWay),
    (("ship", (0, 5, 6, 2, 1, 3, 1)), BadHour), (("ship", (1, 0, 6, 2, 1, 3, 1)), BadShip),
    (("ship", (18, 5, 6, 2, 1, 3, 1)), NoWay), (("redo",), NothingToRedo),
]


def done(console, entry):
    """What the deed of the entry tells."""
    word, *told = entry
    return getattr(console, word)(*told)


def begun():
    """A console in which some deeds are done, and one is undone and can be redone."""
    console = Console(harbour_with(last=18), SHIPS)
    console.promise(0, 6)
    console.go(1)
    console.go(4)
    console.undo()
    return console


class UndoTest(ConsoleTest):
    def test_at_the_ends(self):
        console = Console(HARBOUR, SHIPS)
        self.check_error(console, NothingToUndo, console.undo)
        self.check_error(console, NothingToRedo, console.redo)
        console.go(1)
        self.check_error(console, NothingToRedo, console.redo)
        console.undo()
        self.check_error(console, NothingToUndo, console.undo)
        console.redo()
        self.check_error(console, NothingToRedo, console.redo)
        self.assertEqual(console.journal(), [("go", 1), ("undo",), ("redo",)])

    def test_whether_there_is_something(self):
        console = Console(HARBOUR, SHIPS)
        seen = []
        for word in ("go", "undo", "redo", "undo"):
            console.go(1) if word == "go" else getattr(console, word)()
            seen.append((console.can_undo, console.can_redo))
        self.assertEqual(seen, [(True, False), (False, True), (True, False), (False, True)])

    def test_they_return_none(self):
        console = Console(HARBOUR, SHIPS)
        console.go(1)
        self.assertIsNone(console.undo())
        self.assertIsNone(console.redo())

    def test_back_and_forth_through_all_deeds(self):
        console = Console(HARBOUR, SHIPS[:1])
        seen = [so_now(console)]
        for entry in DEEDS:
            done(console, entry)
            seen.append(so_now(console))
        for so in reversed(seen[:-1]):
            console.undo()
            self.assertEqual(so_now(console), so)
        self.assertIs(console.can_undo, False)
        for so in seen[1:]:
            console.redo()
            self.assertEqual(so_now(console), so)
        self.assertIs(console.can_redo, False)
        self.assertEqual(console.journal(), DEEDS + [("undo",)] * len(DEEDS) + [("redo",)] * len(DEEDS))

    def test_a_deed_behind_an_undo(self):
        console = Console(HARBOUR, SHIPS)
        console.go(1)
        console.go(4)
        console.undo()
        console.undo()
        console.redo()
        console.go(2)
        self.assertEqual((console.now, console.can_undo, console.can_redo), (2, True, False))
        self.check_error(console, NothingToRedo, console.redo)
        console.undo()
        self.assertEqual(console.now, 1)
        console.undo()
        self.assertEqual((console.now, console.can_undo), (0, False))

    def test_a_deed_that_changes_nothing_is_a_deed(self):
        console = Console(HARBOUR, SHIPS)
        console.go(0)
        self.assertIs(console.can_undo, True)
        console.undo()
        console.delay(0, 0)
        self.assertEqual((console.can_undo, console.can_redo), (True, False))
        self.assertEqual(console.journal(), [("go", 0), ("undo",), ("delay", 0, 0)])

    def test_a_ship_is_there_no_more(self):
        console = row_of(1)
        console.ship(LIGHT)
        console.promise(1, 2)
        console.undo()
        console.undo()
        self.assertEqual(len(console), 1)
        self.check_error(console, BadShip, console.promise, 1, 2)
        console.redo()
        self.assertEqual((len(console), console.promises()), (2, [None, None]))
        console.redo()
        self.assertEqual(console.promises(), [None, 2])

    def test_what_is_refused_leaves_what_can_be_redone(self):
        console = begun()
        for entry, error in WRONG:
            if entry == ("redo",):
                continue
            with self.subTest(entry):
                self.check_error(console, error, done, console, entry)
                self.assertIs(console.can_redo, True)
        self.check_error(row_of(3), BadSize, row_of(3).ship, LIGHT)
        console.redo()
        self.assertEqual(console.now, 4)


class DoAllTest(ConsoleTest):
    def test_one_after_another(self):
        one, other = Console(HARBOUR, SHIPS[:1]), Console(HARBOUR, SHIPS[:1])
        self.assertIsNone(one.do_all(DEEDS))
        for entry in DEEDS:
            done(other, entry)
        self.assertEqual(shown(one), shown(other))
        self.assertEqual(one.journal(), DEEDS)

    def test_each_deed_is_undone_by_itself(self):
        console = Console(HARBOUR, SHIPS[:1])
        console.do_all(DEEDS)
        for left in range(len(DEEDS) - 1, -1, -1):
            console.undo()
            other = Console(HARBOUR, SHIPS[:1])
            other.do_all(DEEDS[:left])
            self.assertEqual(so_now(console), so_now(other))
        self.assertIs(console.can_undo, False)

    def test_an_empty_list(self):
        console = begun()
        before = shown(console)
        self.assertIsNone(console.do_all([]))
        self.assertEqual(shown(console), before)
        self.assertEqual(console.what_if([]), 10)

    def test_undo_and_redo_in_a_list(self):
        console = Console(HARBOUR, SHIPS)
        console.do_all([("go", 1), ("undo",), ("go", 3), ("go", 4), ("undo",), ("redo",), ("undo",)])
        self.assertEqual((console.now, console.can_undo, console.can_redo), (3, True, True))
        self.assertEqual(len(console.journal()), 7)
        console.redo()
        self.assertEqual(console.now, 4)

    def test_lists_that_lead_back_ahead_of_themselves(self):
        console = begun()
        console.do_all([("undo",), ("undo",)])
        self.assertEqual((console.now, console.promises(), console.can_undo), (0, [None, None], False))
        console = begun()
        console.do_all([("redo",), ("go", 5), ("undo",), ("undo",), ("undo",), ("undo",), ("redo",)])
        self.assertEqual((console.now, console.promises()), (0, [6, None]))
        console.do_all([("redo",), ("redo",), ("redo",)])
        self.assertEqual((console.now, console.can_redo), (5, False))
        console = begun()
        console.do_all([("undo",), ("undo",), ("go", 2)])
        self.assertEqual((console.now, console.can_redo), (2, False))
        console.undo()
        self.assertIs(console.can_undo, False)

    def test_more_undos_than_deeds(self):
        console = begun()
        self.check_error(console, NothingToUndo, console.do_all, [("undo",)] * 3)
        self.check_error(console, NothingToUndo, console.what_if, [("undo",)] * 3)
        self.check_error(console, NothingToRedo, console.do_all, [("redo",)] * 2)
        self.check_error(console, NothingToRedo, console.do_all, [("go", 1), ("redo",)])

    def test_a_wrong_deed_at_each_place(self):
        right = [("go", 1), ("promise", 1, 9), ("release", 1), ("go", 1)]
        for entry, error in WRONG:
            for at in range(len(right) + 1):
                if at == 2 and entry == ("release", 1) or at == 0 and entry == ("redo",):
                    continue
                if at == 2 and entry == ("promise", 1, 7):
                    error = NotSo
                elif entry == ("promise", 1, 7):
                    error = Clash
                console = begun()
                deeds = right[:at] + [entry] + right[at:]
                with self.subTest(deeds):
                    self.check_error(console, error, console.do_all, deeds)
                    self.check_error(console, error, console.what_if, deeds)
                    self.assertIs(console.can_redo, True)
                    console.do_all(right)

    def test_the_first_of_two_wrong_deeds(self):
        console = begun()
        self.check_error(console, NotSo, console.do_all, [("go", 2), ("release", 1), ("go", 99)])
        self.check_error(console, BadHour, console.what_if, [("go", 99), ("release", 1)])
        error = self.check_error(console, BadShip, console.do_all, [("go", 2), ("promise", "one", 8)])
        self.assertEqual(error.ship, "one")
        error = self.check_error(console, Clash, console.do_all, [("promise", 1, 7)])
        self.assertEqual(error.ships, [])

    def test_values_of_any_kind(self):
        console = begun()
        for value in (*NO_WHOLE_NUMBERS, -1, 10 ** 30):
            self.check_error(console, BadHour, console.do_all, [("go", value)])
            self.check_error(console, BadShip, console.what_if, [("release", value)])
            self.check_error(console, BadHour, console.do_all, [("promise", 1, value)])
            self.check_error(console, BadHour, console.do_all, [("delay", 1, value)])
            self.check_error(console, BadShip, console.do_all, [("delay", value, 8)])
            self.check_error(console, BadShip, console.do_all, [("ship", (1, 5, 6, 2, 1, 3, value))])

    def test_the_list_is_left_as_it_is(self):
        console = Console(HARBOUR, SHIPS[:1])
        deeds = copy.deepcopy(DEEDS)
        console.what_if(deeds)
        console.do_all(deeds)
        self.assertEqual(deeds, DEEDS)
        deeds.append(("go", 0))
        deeds[0] = ("undo",)
        self.assertEqual(console.journal(), DEEDS)


class WhatIfTest(ConsoleTest):
    def test_the_cost_that_would_be(self):
        console = Console(HARBOUR, SHIPS[:1])
        console.go(1)
        console.ship(SHIPS[1])
        console.promise(1, 8)
        before = shown(console)
        self.assertEqual((console.what_if([("delay", 1, 7)]), console.cost()), (6, 10))
        self.assertEqual(console.what_if([("undo",), ("undo",)]), 0)
        self.assertEqual(console.what_if([("undo",), ("undo",), ("redo",)]), 10)
        self.assertEqual(console.what_if([("go", 9), ("release", 1)]), 10)
        self.assertEqual(shown(console), before)

    def test_it_is_the_cost_when_they_are_done(self):
        chance = random.Random(61)
        for _ in range(25):
            harbour, ships = console_case(chance)
            if isinstance(error_of(Console, harbour, ships), NoWay):
                continue
            console = Console(harbour, ships)
            for _ in range(8):
                deeds = [some_deed(chance, console) for _ in range(chance.randint(0, 4))]
                before = shown(console)
                error, cost = error_of(console.what_if, deeds), None
                self.assertEqual(shown(console), before)
                if error is None:
                    cost = console.what_if(deeds)
                self.assertIs(type(error_of(console.do_all, deeds)), type(error))
                if error is None:
                    self.assertEqual((console.cost(), console.journal()), (cost, before[-1] + deeds))
                else:
                    self.assertEqual(shown(console), before)


class JournalTest(ConsoleTest):
    def test_what_stands_there(self):
        console = Console(HARBOUR, SHIPS[:1])
        console.go(1)
        console.ship(SHIPS[1])
        self.assertEqual(console.promise(1, 8), 0)
        self.check_error(console, NotSo, console.promise, 1, 9)
        console.release(1)
        console.undo()
        console.redo()
        console.delay(1, 4)
        console.what_if([("go", 5)])
        console.do_all([("go", 2), ("undo",)])
        self.assertEqual(console.journal(), [
            ("go", 1), ("ship", SHIPS[1]), ("promise", 1, 8), ("release", 1), ("undo",), ("redo",), ("delay", 1, 4),
            ("go", 2), ("undo",),
        ])

    def test_replaying_an_empty_journal(self):
        self.assertEqual(shown(replay(HARBOUR, SHIPS, [])), shown(Console(HARBOUR, SHIPS)))

    def check_alike(self, harbour, ships, console):
        """A replayed console is like this one, also if both go back to the beginning and forth to the end."""
        journal = console.journal()
        other = replay(harbour, ships, journal)
        self.assertEqual(console.journal(), journal)
        self.assertEqual(shown(other), shown(console))
        for word in ("undo", "redo"):
            while getattr(console, "can_" + word):
                getattr(console, word)()
                getattr(other, word)()
                self.assertEqual(shown(other), shown(console))

    def test_replaying(self):
        console = Console(HARBOUR, SHIPS[:1])
        console.do_all(DEEDS)
        console.do_all([("undo",)] * 4 + [("redo",)])
        self.check_alike(HARBOUR, SHIPS[:1], console)
        self.check_alike(harbour_with(last=18), SHIPS, begun())

    def test_replaying_on_changed_lists(self):
        console = Console(HARBOUR, SHIPS[:1])
        console.do_all(DEEDS)
        harbour, ships, journal = console.harbour(), SHIPS[:1], console.journal()
        other = replay(harbour, ships, journal)
        harbour[0].append(0)
        ships.append(LIGHT)
        journal.pop()
        self.assertEqual(shown(other), shown(console))
        self.assertEqual(other.ships(), [SHIPS[0], (5, 4, 8, 1, 2, 2, 2)])

    def test_the_first_wrong_entry(self):
        right = [("go", 1), ("promise", 1, 9), ("release", 1), ("undo",)]
        for wrong in (("go", 0), ("promise", 2, 8), ("release", True), ("delay", 0, 5), ("ship", (0,) * 7), ("redo",)):
            for at in range(1, len(right)):
                error = error_of(replay, HARBOUR, SHIPS, right[:at] + [wrong] + right[at:])
                self.assertEqual((type(error), error.at), (BadEntry, at))
        self.assertEqual(error_of(replay, HARBOUR, SHIPS, [("undo",)]).at, 0)
        self.assertEqual(error_of(replay, HARBOUR, SHIPS, right + [("go", 3), ("redo",), ("go", -1)]).at, 5)
        self.assertEqual(error_of(replay, ROW, [LIGHT] * 3, [("promise", 0, 2), ("promise", 1, 4)]).at, 1)
        self.assertEqual(error_of(replay, ROW, [LIGHT] * 3, [("ship", LIGHT)]).at, 0)
        self.assertEqual(error_of(replay, ROW, [LIGHT], [("go", 1), ("ship", ship_with(LIGHT, ready=9))]).at, 1)

    def test_entries_that_are_no_deeds(self):
        for wrong in (("go",), ("go", 1, 2), ("undo", 1), ("sink", 1), ()):
            error = error_of(replay, HARBOUR, SHIPS, [("go", 1), wrong])
            self.assertEqual((type(error), error.at), (BadEntry, 1))

    def test_what_the_making_raises_comes_first(self):
        wrong = [("redo",)]
        self.assertIs(type(error_of(replay, harbour_with(last=0), SHIPS, wrong)), BadNumber)
        self.assertIs(type(error_of(replay, HARBOUR, [], wrong)), BadSize)
        self.assertIs(type(error_of(replay, HARBOUR, [LIGHT[:6] + (10,)], wrong)), BadShip)
        self.assertIs(type(error_of(replay, harbour_with(last=7), SHIPS, wrong)), NoWay)


class AgainstTheModelTest(ConsoleTest):
    def check_like(self, console, model):
        ships, hour, _, latest = model.now()
        self.assertEqual((console.ships(), console.now, console.promises()), (list(ships), hour, list(latest)))
        self.assertEqual((console.plan(), console.cost()), (model.plan(), model.cost()))
        self.assertEqual((console.state(), console.journal()), (model.state(), model.journal))
        self.assertEqual((console.can_undo, console.can_redo), (model.at > 0, model.at + 1 < len(model.past)))

    def told_by(self, deed, *told):
        """What the deed tells, or what the error does."""
        try:
            return deed(*told)
        except Wrong as wrong:
            return wrong.args
        except TideError as error:
            return (type(error).__name__, *vars(error).values())

    def test_deeds(self):
        chance = random.Random(59)
        seen = {}
        for _ in range(70):
            harbour, ships = console_case(chance)
            console, model = self.told_by(Console, harbour, ships), self.told_by(Model, harbour, ships)
            if model == ("NoWay",):
                self.assertEqual(console, model)
                continue
            for _ in range(12):
                entry = some_deed(chance, console)
                expected = self.told_by(model.deed, *entry)
                told = self.told_by(done, console, entry)
                self.assertEqual(repr(told), repr(expected))
                what = expected[0] if isinstance(expected, tuple) else "done"
                seen[what] = seen.get(what, 0) + 1
                self.check_like(console, model)
            other = replay(harbour, ships, console.journal())
            self.assertEqual(shown(other), shown(console))
        errors = ("BadHour", "BadShip", "BadSize", "Clash", "NoWay", "NotSo", "NothingToRedo", "NothingToUndo")
        self.assertTrue(all(seen.get(what, 0) > 4 for what in ("done", *errors)), seen)


if __name__ == "__main__":
    unittest.main()
