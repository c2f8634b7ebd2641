"""Plans that are made by going by an order, and what they cost more than the best ones."""

from itertools import permutations

from tidewaits.best import after_moves, beginning, cost_in, least_cost, rests_from
from tidewaits.harbours import cost_of
from tidewaits.moves import berths_for
from tidewaits.sums import plus
from tidewaits.tides import can_pass

# For each rule the position in a ship of what counts, and 1 if the least is first, -1 if the greatest is.
RULES = {"first": (0, 1), "short": (3, 1), "dear": (5, -1), "shallow": (2, 1)}


def order_of(ships, rule):
    """Return the order that the rule tells."""
    at, sign = RULES[rule]
    return [name for _, name in sorted([(sign * ship[at], name) for name, ship in enumerate(ships)])]


def _asked_in(ships, order, rows, hour):
    """Return the names of the ships that are asked in the hour, in turn."""
    lying = []
    for name, row in enumerate(rows):
        if len(row) == 2 and hour >= row[0] + 1 + ships[name][3]:
            lying.append(name)
    return lying + [name for name in order if len(rows[name]) == 0 and hour >= ships[name][0]]


def _shortest_berth(harbour, ship, taken):
    """Return the shortest berth for the ship that is not taken, the first of several, or None."""
    found = [(harbour[1][berth], berth) for berth in berths_for(harbour, ship, taken)]
    return min(found)[1] if found else None


def _rows_behind(harbour, ships, order, rows, hour):
    """Return what the ships have of their tuples behind the hour."""
    _, _, tugs, pilots, _ = harbour
    found = list(rows)
    # A berth that is given up in this hour is still taken in it.
    taken = [row[1] for row in rows if len(row) == 2]
    for name in _asked_in(ships, order, rows, hour):
        _, _, draught, _, needed, _, _ = ships[name]
        if pilots == 0 or needed > tugs or not can_pass(harbour, draught, hour):
            continue
        if rows[name]:
            found[name] = rows[name] + (hour,)
        else:
            berth = _shortest_berth(harbour, ships[name], taken)
            if berth is None:
                continue
            taken.append(berth)
            found[name] = (hour, berth)
        tugs = tugs - needed
        pilots = pilots - 1
    return found


def plan_by(harbour, ships, order):
    """Return the plan by the order, or None if there is none."""
    # Each ship has nothing of her tuple at first, two numbers while she lies, and three when she is gone.
    rows = [() for _ in ships]
    for hour in range(harbour[4] + 1):
        rows = _rows_behind(harbour, ships, order, rows, hour)
    return rows if all([len(row) == 3 for row in rows]) else None


def price_of(harbour, ships, order):
    """Return by how much the plan by the order costs more than the least cost, or None if there is none."""
    plan = plan_by(harbour, ships, order)
    return None if plan is None else cost_of(ships, plan) - least_cost(harbour, ships)


def best_orders(harbour, ships):
    """Return the orders whose plans cost least of all plans by orders, ascending."""
    found = []
    # The permutations of an ascending list are ascending.
    for order in permutations(range(len(ships))):
        plan = plan_by(harbour, ships, list(order))
        if plan is not None:
            found.append((cost_of(ships, plan), list(order)))
    least = min([cost for cost, _ in found], default=None)
    return [order for cost, order in found if cost == least]


def _moves_at(plan, hour):
    """Return the moves of the plan in the hour."""
    found = []
    for name, (came, berth, left) in enumerate(plan):
        if hour == came:
            found.append((name, berth))
        if hour == left:
            found.append((name, -1))
    return tuple(found)


def parting(harbour, ships, plan):
    """Return the parting of the plan, or None."""
    state = beginning(ships)
    rests = rests_from(harbour, ships, state)
    least = rests[state]
    spent = 0
    for hour in range(max([left for _, _, left in plan]) + 1):
        moves = _moves_at(plan, hour)
        spent += cost_in(ships, state, moves)
        state = after_moves(ships, state, moves)
        if plus(spent, rests[state]) != least:
            return hour
    return None
