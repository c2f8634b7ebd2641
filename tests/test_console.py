"""Points 57 to 60 and 63: what a console has, its state, plan and cost, and its deeds."""

import copy
import random
import unittest

from tests.all_plans import console_case, some_deed
from tests.consoles import LIGHT, ROW, ConsoleTest, row_of, shown
from tests.helper import HARBOUR, NO_WHOLE_NUMBERS, PLAN, SHIPS, error_of, harbour_with, ship_with
from tidewaits import best
from tidewaits.console import Console
from tidewaits.errors import BadHour, BadNumber, BadShip, BadSize, Clash, NotSo, NoWay, TideError
from tidewaits.harbours import cost_of, is_plan, waits

AT_SEA, GONE = (-1, 0), (-2, 0)
ODD_HOURS = [*NO_WHOLE_NUMBERS, -1, 10 ** 30, -(10 ** 30)]


class MakingTest(ConsoleTest):
    def test_right_behind_the_making(self):
        console = Console(HARBOUR, SHIPS)
        self.assertEqual(console.harbour(), HARBOUR)
        self.assertEqual(console.ships(), SHIPS)
        self.assertEqual(console.promises(), [None, None])
        self.assertEqual((console.plan(), console.cost()), (PLAN, 10))
        self.assertEqual(console.state(), (0, (AT_SEA, AT_SEA)))
        self.assertEqual((console.journal(), console.now, len(console)), ([], 0, 2))
        self.assertIs(console.can_undo, False)
        self.assertIs(console.can_redo, False)

    def test_the_number_of_the_ships(self):
        for many in (1, 2, 3):
            self.assertEqual(len(row_of(many)), many)

    def test_no_way(self):
        for harbour, ships in (
            (harbour_with(last=7), SHIPS), (harbour_with(ROW, last=7), [LIGHT] * 3),
            (harbour_with(ROW, last=1), [LIGHT]),
            (harbour_with(ROW, berths=[8]), [ship_with(LIGHT, length=9)]), (ROW, [ship_with(LIGHT, draught=10), LIGHT]),
            (harbour_with(ROW, tugs=1), [LIGHT, ship_with(LIGHT, tugs=2)]), (ROW, [ship_with(LIGHT, ready=8)]),
        ):
            with self.subTest((harbour, ships)):
                self.assertIs(type(error_of(Console, harbour, ships)), NoWay)

    def test_what_the_checks_raise_comes_first(self):
        self.assertIs(type(error_of(Console, ([], [], 9, 9, 0), [])), BadSize)
        self.assertIs(type(error_of(Console, ([41], [9], 3, 3, 9), [])), BadNumber)
        self.assertIs(type(error_of(Console, harbour_with(ROW, last=True), [])), BadNumber)
        self.assertIs(type(error_of(Console, harbour_with(ROW, last=1), [])), BadSize)
        self.assertIs(type(error_of(Console, harbour_with(ROW, last=1), [LIGHT] * 4)), BadSize)
        error = error_of(Console, harbour_with(ROW, last=1), [LIGHT, ship_with(LIGHT, stay=0)])
        self.assertEqual((type(error), error.ship), (BadShip, 1))

    def test_lists_that_are_handed_in_are_copied(self):
        harbour, ships = copy.deepcopy((HARBOUR, SHIPS))
        console = Console(harbour, ships)
        before = shown(console)
        harbour[0][:] = [0]
        harbour[1].append(9)
        ships[0] = LIGHT
        ships.append(LIGHT)
        self.assertEqual(shown(console), before)
        self.assertEqual(console.ship(LIGHT), Console(HARBOUR, SHIPS).ship(LIGHT))

    def test_lists_that_are_returned_may_be_changed(self):
        console = Console(HARBOUR, SHIPS)
        console.promise(1, 9)
        told = console.go(1)
        lost = console.delay(1, 2)
        console.undo()
        before = shown(console)
        self.assertEqual((told, lost), ([(0, 0, 0)], []))
        depths, berths, _, _, _ = console.harbour()
        for found in (
            depths, berths, console.ships(), console.promises(), console.plan(), console.journal(), told, lost,
        ):
            found.append("spoilt")
            found.reverse()
        self.assertEqual(shown(console), before)
        console.undo()
        self.assertEqual(console.go(1), [(0, 0, 0)])

    def test_consoles_do_not_share_anything(self):
        one, other = Console(HARBOUR, SHIPS), Console(HARBOUR, SHIPS)
        one.go(3)
        one.promise(1, 8)
        self.assertEqual(shown(other), shown(Console(HARBOUR, SHIPS)))


class StateTest(ConsoleTest):
    def test_states(self):
        console = Console(HARBOUR, SHIPS)
        expected = [
            (AT_SEA, AT_SEA), ((0, 2), AT_SEA), ((0, 1), AT_SEA), ((0, 0), AT_SEA), (GONE, AT_SEA), (GONE, (0, 1)),
            (GONE, (0, 0)), (GONE, (0, 0)), (GONE, (0, 0)),
        ]
        for hour, places in enumerate(expected):
            console.go(hour)
            self.assertEqual(console.state(), (hour, places))

    def test_all_ships_gone_ahead_of_the_hour(self):
        console = Console(HARBOUR, SHIPS)
        for hour in (9, 10, 15, 20, 21):
            console.go(hour)
            self.assertEqual(console.state(), (hour, (GONE, GONE)))
            self.assertEqual((console.plan(), console.cost(), console.now), (PLAN, 10, hour))

    def test_a_ship_that_comes_when_all_are_gone(self):
        console = Console(HARBOUR, SHIPS)
        console.go(12)
        self.assertEqual(console.ship((12, 5, 9, 1, 0, 3, 4)), 8)
        self.assertEqual(console.state(), (12, (GONE, GONE, AT_SEA)))
        self.assertEqual(console.plan(), PLAN + [(12, 0, 16)])

    def test_the_last_hour_and_1(self):
        console = row_of(3)
        self.assertEqual(console.go(10)[-1], (8, 2, -1))
        self.assertEqual(console.state(), (10, (GONE, GONE, GONE)))
        self.assertEqual(console.go(10), [])
        self.check_error(console, BadHour, console.go, 11)
        full = row_of(3, last=8)
        self.assertEqual(len(full.go(9)), 6)
        self.assertEqual(full.state(), (9, (GONE, GONE, GONE)))


class PlanTest(ConsoleTest):
    def test_the_first_of_the_best_moves(self):
        # If waiting costs nothing she waits as long as there is time: () is the first of the moves.
        free = ship_with(LIGHT, sea=0, lie=0)
        self.assertEqual(Console(ROW, [free]).plan(), [(7, 0, 9)])
        self.assertEqual(Console(ROW, [ship_with(free, lie=1)]).plan(), [(7, 0, 9)])
        self.assertEqual(Console(ROW, [ship_with(free, sea=1)]).plan(), [(0, 0, 9)])
        self.assertEqual(Console(ROW, [LIGHT]).plan(), [(0, 0, 2)])
        self.assertEqual(best.best_plan(ROW, [free]), [(0, 0, 2)])

    def test_the_first_of_two_berths_and_of_two_ships(self):
        console = Console(harbour_with(ROW, berths=[9, 9]), [LIGHT, LIGHT, LIGHT])
        self.assertEqual(console.plan(), [(0, 0, 2), (0, 1, 2), (3, 0, 5)])
        self.assertEqual(row_of(3).plan(), [(0, 0, 2), (3, 0, 5), (6, 0, 8)])

    def test_the_plan_is_made_of_best_moves(self):
        chance = random.Random(58)
        for _ in range(30):
            harbour, ships = console_case(chance)
            if best.least_cost(harbour, ships) is None:
                continue
            console = Console(harbour, ships)
            state, moves = best.beginning(ships), []
            while best.best_moves(harbour, ships, state) and set(state[1]) != {GONE}:
                first = best.best_moves(harbour, ships, state)[0]
                moves += [(state[0], *move) for move in first]
                state = best.after_moves(ships, state, first)
            self.assertEqual(console.go(harbour[4] + 1), moves)
            self.assertEqual(console.cost(), best.least_cost(harbour, ships))

    def test_the_cost_has_what_was_spent_with_it(self):
        console = Console(HARBOUR, SHIPS)
        for hour in range(22):
            console.go(hour)
            self.assertEqual((console.cost(), cost_of(console.ships(), console.plan())), (10, 10))


class GoTest(ConsoleTest):
    def test_what_is_told(self):
        console = Console(HARBOUR, SHIPS)
        self.assertEqual(console.go(0), [])
        self.assertEqual(console.go(1), [(0, 0, 0)])
        self.assertEqual(console.go(3), [])
        self.assertEqual(console.go(5), [(3, 0, -1), (4, 1, 0)])
        self.assertEqual(console.go(5), [])
        self.assertEqual(console.go(21), [(8, 1, -1)])
        self.assertEqual(Console(HARBOUR, SHIPS).go(21), [(0, 0, 0), (3, 0, -1), (4, 1, 0), (8, 1, -1)])

    def test_several_moves_in_an_hour(self):
        console = Console(harbour_with(ROW, berths=[9, 9]), [LIGHT, LIGHT])
        self.assertEqual(console.go(3), [(0, 0, 0), (0, 1, 1), (2, 0, -1), (2, 1, -1)])

    def test_wrong_hours(self):
        console = Console(HARBOUR, SHIPS)
        console.go(3)
        for hour in (*ODD_HOURS, 2, 0, 22, 23):
            self.check_error(console, BadHour, console.go, hour)
        console.go(3)
        console.go(21)
        self.check_error(console, BadHour, console.go, 20)

    def test_time_leaves_the_plan_as_it_is(self):
        chance = random.Random(63)
        for _ in range(30):
            harbour, ships = console_case(chance)
            if best.least_cost(harbour, ships) is None:
                continue
            console = Console(harbour, ships)
            for _ in range(4):
                error_of(console.promise, chance.randrange(len(ships)), chance.randint(1, harbour[4]))
            plan, cost, told = console.plan(), console.cost(), []
            while console.now <= harbour[4]:
                told += console.go(min(harbour[4] + 1, console.now + chance.randint(0, 2)))
                self.assertEqual((console.plan(), console.cost()), (plan, cost))
            self.assertEqual(len(told), 2 * len(ships))
            self.assertEqual(told, sorted(told))


class ShipTest(ConsoleTest):
    def test_what_is_told(self):
        console = Console(HARBOUR, SHIPS[:1])
        self.assertEqual((console.plan(), console.go(1)), ([(0, 0, 3)], [(0, 0, 0)]))
        self.assertEqual(console.ship(SHIPS[1]), 10)
        self.assertEqual((console.plan(), console.cost(), len(console)), (PLAN, 10, 2))
        self.assertEqual((console.ships(), console.promises()), (SHIPS, [None, None]))
        self.assertEqual(console.state(), (1, ((0, 2), AT_SEA)))

    def test_a_ship_ready_in_this_very_hour(self):
        console = row_of(1)
        console.go(3)
        self.assertEqual(console.ship(ship_with(LIGHT, ready=3)), 0)
        self.assertEqual(console.plan(), [(0, 0, 2), (3, 0, 5)])

    def test_the_plan_of_the_others_can_change(self):
        console = Console(harbour_with(ROW, last=20), [ship_with(LIGHT, stay=4)])
        self.assertEqual(console.ship(ship_with(LIGHT, sea=9)), 3)
        self.assertEqual(console.plan(), [(3, 0, 8), (0, 0, 2)])

    def test_what_is_done_stays(self):
        console = Console(harbour_with(ROW, last=20), [ship_with(LIGHT, stay=4)])
        console.go(1)
        self.assertEqual(console.ship(ship_with(LIGHT, ready=1, sea=9)), 45)
        self.assertEqual(console.plan(), [(0, 0, 5), (6, 0, 8)])

    def test_three_ships_already(self):
        console = row_of(3)
        for ship in (LIGHT, ship_with(LIGHT, stay=0), (None,) * 7):
            self.check_error(console, BadSize, console.ship, ship)

    def test_wrong_ships(self):
        console = row_of(2)
        console.go(3)
        bounds = [(0, 20), (1, 9), (0, 40), (1, 4), (0, 3), (0, 9), (0, 9)]
        for at, (least, most) in enumerate(bounds):
            for number in (*NO_WHOLE_NUMBERS, least - 1, most + 1, 10 ** 30):
                ship = LIGHT[:at] + (number,) + LIGHT[at + 1:]
                self.assertEqual(self.check_error(console, BadShip, console.ship, ship).ship, 2)
        one = row_of(1)
        self.assertEqual(self.check_error(one, BadShip, one.ship, ship_with(LIGHT, sea=True)).ship, 1)

    def test_a_ship_that_would_have_been_ready_earlier(self):
        console = row_of(2)
        console.go(2)
        for ready in (0, 1):
            self.check_error(console, BadHour, console.ship, ship_with(LIGHT, ready=ready))
            # Whether there is a way is asked behind this, whether she is a ship at all ahead of it.
            self.check_error(console, BadHour, console.ship, ship_with(LIGHT, ready=ready, draught=10))
            self.check_error(console, BadShip, console.ship, ship_with(LIGHT, ready=ready, length=10))
        self.assertEqual(console.ship(ship_with(LIGHT, ready=2)), 4)

    def test_no_way(self):
        console = row_of(2)
        self.check_error(console, NoWay, console.ship, ship_with(LIGHT, ready=8))
        self.check_error(console, NoWay, console.ship, ship_with(LIGHT, draught=10))
        self.assertEqual(console.ship(ship_with(LIGHT, ready=7)), 0)

    def test_no_way_with_the_promises(self):
        # She can only lie there from 3 to 5, as one of the others must to be gone by 5.
        console = Console(([9, 9, 9, 9, 9, 9, 5, 5, 5], [9], 3, 3, 8), [LIGHT, LIGHT])
        ship = ship_with(LIGHT, ready=3, draught=9)
        console.promise(0, 5)
        console.promise(1, 5)
        self.check_error(console, NoWay, console.ship, ship)
        console.release(0)
        self.assertEqual((console.ship(ship), console.promises()), (3, [None, 5, None]))
        self.assertEqual(console.plan(), [(6, 0, 8), (0, 0, 2), (3, 0, 5)])

    def test_no_way_at_the_end_of_the_day(self):
        console = row_of(1)
        console.go(10)
        self.check_error(console, NoWay, console.ship, ship_with(LIGHT, ready=10))
        self.check_error(console, BadHour, console.ship, ship_with(LIGHT, ready=9))


class PromiseTest(ConsoleTest):
    def test_what_is_told(self):
        console = row_of(2)
        self.assertEqual(console.promise(0, 100), 0)
        self.assertEqual(console.promises(), [100, None])
        self.assertEqual(console.promise(1, 2), 0)
        self.assertEqual(console.plan(), [(3, 0, 5), (0, 0, 2)])
        dear = Console(ROW, [ship_with(LIGHT, sea=5), LIGHT])
        self.assertEqual((dear.cost(), dear.promise(1, 4), dear.cost()), (3, 12, 15))
        self.assertEqual((dear.plan(), dear.promises()), ([(3, 0, 5), (0, 0, 2)], [None, 4]))

    def test_wrong_names(self):
        console = row_of(2)
        for ship in (*NO_WHOLE_NUMBERS, -1, 2, 3, 10 ** 30):
            for hour in (8, -1, None):
                error = self.check_error(console, BadShip, console.promise, ship, hour)
                self.assertIs(error.ship, ship)

    def test_wrong_hours(self):
        console = row_of(2)
        console.promise(0, 8)
        console.go(1)
        for ship in (0, 1):
            for hour in (*ODD_HOURS, 101):
                self.check_error(console, BadHour, console.promise, ship, hour)

    def test_a_promise_that_there_is(self):
        console = row_of(2)
        console.promise(0, 8)
        for hour in (0, 7, 8, 9, 100):
            self.check_error(console, NotSo, console.promise, 0, hour)

    def test_a_ship_that_has_gone_out(self):
        console = row_of(2)
        console.go(2)
        self.assertEqual(console.promise(0, 2), 0)
        console.undo()
        console.go(3)
        for hour in (0, 2, 100):
            self.check_error(console, NotSo, console.promise, 0, hour)

    def test_a_clash_without_ships(self):
        console = row_of(3)
        for hour in (0, 1):
            self.assertEqual(self.check_error(console, Clash, console.promise, 1, hour).ships, [])
        console.promise(0, 5)
        self.assertEqual(self.check_error(console, Clash, console.promise, 1, 1).ships, [])
        console.go(1)
        # The other one is at the berth already.
        self.assertEqual(self.check_error(console, Clash, console.promise, 1, 4).ships, [])

    def test_a_clash_with_one_ship(self):
        console = row_of(3)
        console.promise(1, 4)
        self.assertEqual(self.check_error(console, Clash, console.promise, 0, 2).ships, [1])
        console.promise(2, 8)
        self.assertEqual(self.check_error(console, Clash, console.promise, 0, 4).ships, [1])
        console.promise(0, 5)
        self.assertEqual(console.promises(), [5, 4, 8])

    def test_a_clash_with_two_ships(self):
        console = row_of(3)
        console.promise(2, 5)
        console.promise(0, 5)
        self.assertEqual(self.check_error(console, Clash, console.promise, 1, 5).ships, [0, 2])
        self.assertEqual(self.check_error(console, Clash, console.promise, 1, 1).ships, [])
        self.assertEqual(console.promise(1, 8), 0)

    def test_the_first_of_several_clashes(self):
        console = Console(harbour_with(ROW, last=11), [LIGHT, LIGHT, ship_with(LIGHT, stay=4)])
        console.promise(1, 5)
        console.promise(0, 5)
        self.assertEqual(self.check_error(console, Clash, console.promise, 2, 5).ships, [0])
        self.assertEqual(self.check_error(console, Clash, console.promise, 2, 8).ships, [0, 1])
        self.assertEqual(self.check_error(console, Clash, console.promise, 2, 10).ships, [0, 1])
        self.assertEqual(console.promise(2, 11), 0)

    def test_ships_that_have_gone_out_do_not_clash(self):
        console = row_of(3)
        console.promise(0, 2)
        console.go(3)
        console.promise(1, 5)
        self.assertEqual(self.check_error(console, Clash, console.promise, 2, 7).ships, [1])
        console.release(1)
        self.assertEqual(self.check_error(console, Clash, console.promise, 2, 4).ships, [])

    def test_the_ships_of_a_clash_may_be_changed(self):
        console = row_of(2)
        console.promise(0, 2)
        error = self.check_error(console, Clash, console.promise, 1, 4)
        before = shown(console)
        error.ships.append(7)
        self.assertEqual(self.check_error(console, Clash, console.promise, 1, 4).ships, [0])
        self.assertEqual(shown(console), before)


class ReleaseTest(ConsoleTest):
    def test_what_is_told(self):
        console = Console(ROW, [ship_with(LIGHT, sea=5), LIGHT])
        console.promise(1, 4)
        console.promise(0, 9)
        self.assertEqual(console.release(0), 0)
        self.assertEqual((console.release(1), console.cost(), console.promises()), (12, 3, [None, None]))
        self.assertEqual(console.plan(), [(0, 0, 2), (3, 0, 5)])
        self.assertEqual(console.promise(1, 4), 12)

    def test_what_is_done_stays(self):
        console = Console(ROW, [ship_with(LIGHT, sea=5), LIGHT])
        console.promise(1, 4)
        console.go(1)
        self.assertEqual((console.release(1), console.plan()), (0, [(3, 0, 5), (0, 0, 2)]))

    def test_a_promise_that_was_kept_can_be_released(self):
        console = row_of(2)
        console.promise(0, 2)
        console.go(6)
        self.assertEqual((console.promises(), console.release(0), console.promises()), ([2, None], 0, [None, None]))
        self.check_error(console, NotSo, console.release, 0)

    def test_wrong_names(self):
        console = row_of(2)
        console.promise(0, 2)
        console.promise(1, 8)
        for ship in (*NO_WHOLE_NUMBERS, -1, 2, 10 ** 30):
            self.assertIs(self.check_error(console, BadShip, console.release, ship).ship, ship)

    def test_no_promise(self):
        console = row_of(2)
        console.promise(0, 2)
        self.check_error(console, NotSo, console.release, 1)
        console.release(0)
        self.check_error(console, NotSo, console.release, 0)


class DelayTest(ConsoleTest):
    def test_all_promises_stay(self):
        console = row_of(2)
        self.assertEqual(console.delay(0, 4), [])
        self.assertEqual(console.ships(), [ship_with(LIGHT, ready=4), LIGHT])
        self.assertEqual((console.plan(), console.cost()), ([(4, 0, 6), (0, 0, 2)], 0))
        console.promise(0, 6)
        console.promise(1, 2)
        self.assertEqual((console.delay(1, 0), console.promises()), ([], [6, 2]))

    def test_waits_count_from_the_new_hour(self):
        console = row_of(2)
        console.go(2)
        self.assertEqual((console.cost(), console.delay(1, 3), console.cost()), (3, [], 0))
        self.assertEqual(waits(console.ships(), console.plan()), [(0, 0), (0, 0)])
        self.assertEqual((console.delay(1, 5), console.cost(), console.plan()), ([], 0, [(0, 0, 2), (5, 0, 7)]))

    def test_wrong_names(self):
        console = row_of(2)
        for ship in (*NO_WHOLE_NUMBERS, -1, 2, 10 ** 30):
            for hour in (5, None):
                self.assertIs(self.check_error(console, BadShip, console.delay, ship, hour).ship, ship)

    def test_ships_that_have_come_in(self):
        console = row_of(2)
        console.go(1)
        for hour in (5, 0, None):
            self.check_error(console, NotSo, console.delay, 0, hour)
        console.go(3)
        self.check_error(console, NotSo, console.delay, 0, 5)
        self.assertEqual(console.delay(1, 3), [])
        console.go(4)
        self.check_error(console, NotSo, console.delay, 1, 5)

    def test_wrong_hours(self):
        console = Console(harbour_with(ROW, last=30), [ship_with(LIGHT, ready=4), ship_with(LIGHT, ready=1)])
        for hour in (*ODD_HOURS, 0, 3, 21, 22):
            self.check_error(console, BadHour, console.delay, 0, hour)
        console.go(6)
        self.assertEqual(console.plan()[1], (1, 0, 3))
        console = Console(harbour_with(ROW, last=30), [LIGHT, ship_with(LIGHT, ready=1)])
        console.go(2)
        for hour in (1, 0):
            self.check_error(console, BadHour, console.delay, 1, hour)
        self.assertEqual(console.delay(1, 2), [])
        self.assertEqual(console.delay(1, 20), [])
        for hour in (19, 21):
            self.check_error(console, BadHour, console.delay, 1, hour)
        console.go(20)
        self.assertEqual(console.delay(1, 20), [])

    def test_no_way(self):
        console = row_of(2)
        self.check_error(console, NoWay, console.delay, 0, 8)
        self.assertEqual(console.delay(0, 7), [])
        self.check_error(console, NoWay, console.delay, 1, 7)
        self.check_error(console, NoWay, console.delay, 1, 5)

    def test_a_way_without_the_promises_is_enough(self):
        console = row_of(1)
        console.promise(0, 2)
        self.assertEqual((console.delay(0, 7), console.promises(), console.plan()), ([0], [None], [(7, 0, 9)]))
        self.check_error(console, NoWay, console.delay, 0, 8)

    def test_a_promise_does_not_stay(self):
        console = row_of(2)
        console.promise(0, 4)
        console.promise(1, 8)
        self.assertEqual((console.delay(0, 3), console.promises(), console.cost()), ([0], [None, 8], 0))
        self.assertEqual(console.plan(), [(3, 0, 5), (0, 0, 2)])
        console.undo()
        self.assertEqual(console.promises(), [4, 8])

    def test_promises_are_gone_through_ship_by_ship(self):
        console = row_of(2)
        console.promise(0, 4)
        console.promise(1, 5)
        # Each of the two could stay alone; the first one does.
        self.assertEqual((console.delay(0, 1), console.promises()), ([1], [4, None]))
        console = row_of(2)
        console.promise(1, 4)
        console.promise(0, 5)
        self.assertEqual((console.delay(1, 1), console.promises()), ([1], [5, None]))

    def test_several_promises_do_not_stay(self):
        # The first one can move at 0, 2, 3 and 5 only: when she is late the second one must wait for her.
        harbour = ([9, 5, 9, 9, 5, 9, 5, 5, 5, 5, 5, 5], [9], 3, 3, 11)
        ships = [ship_with(LIGHT, draught=9), ship_with(LIGHT, ready=3), ship_with(LIGHT, ready=6)]
        console = Console(harbour, ships)
        self.assertEqual([console.promise(0, 2), console.promise(2, 11), console.promise(1, 5)], [0, 0, 0])
        self.assertEqual((console.delay(0, 3), console.promises()), ([0, 1], [None, None, 11]))
        self.assertEqual(console.plan()[0], (3, 0, 5))

    def test_promises_to_ships_that_have_gone_out_stay(self):
        console = row_of(2)
        console.promise(0, 2)
        console.promise(1, 5)
        console.go(3)
        self.assertEqual((console.delay(1, 5), console.promises()), ([1], [2, None]))


class CostsTest(ConsoleTest):
    def test_costs_behind_promises_releases_and_new_ships(self):
        chance = random.Random(64)
        seen = {}
        for _ in range(100):
            harbour, ships = console_case(chance)
            if best.least_cost(harbour, ships) is None:
                continue
            console = Console(harbour, ships)
            for _ in range(12):
                word, *told = some_deed(chance, console)
                before, plan, fleet = console.cost(), console.plan(), console.ships()
                try:
                    answer = getattr(console, word)(*told)
                except TideError:
                    continue
                self.assertTrue(is_plan(harbour, console.ships(), console.plan()))
                for (_, _, left), most in zip(console.plan(), console.promises()):
                    self.assertTrue(most is None or left <= most)
                seen[word] = seen.get(word, 0) + 1
                if word in ("promise", "ship", "release"):
                    rise = console.cost() - before
                    self.assertEqual(answer, -rise if word == "release" else rise)
                    self.assertGreaterEqual(answer, 0)
                if word == "ship":
                    # What the others cost together.
                    self.assertGreaterEqual(cost_of(fleet, console.plan()[:-1]), cost_of(fleet, plan))
        self.assertTrue(all(seen.get(word, 0) > 10 for word in ("promise", "ship", "release", "go", "delay")), seen)


if __name__ == "__main__":
    unittest.main()
