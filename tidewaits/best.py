"""Best plans, and the tables that show that no plan costs less."""

from tidewaits.harbours import cost_of, is_plan
from tidewaits.levels import levels_from
from tidewaits.moves import LEAVES, STAYS, berths_for, choices_of
from tidewaits.sums import is_at_most, least_of, plus
from tidewaits.tides import can_pass

AT_SEA = (-1, 0)
GONE = (-2, 0)
# What stands in place of the berth in the moves of an hour, for a ship that goes out.
OUT = -1


def beginning(ships):
    """Return the beginning."""
    return (0, tuple([AT_SEA for _ in ships]))


def _is_end(state):
    return all([place == GONE for place in state[1]])


def _is_too_late(latest, name, hour):
    """Tell whether a promise forbids the ship with this name to go out in the hour."""
    if latest is None or latest[name] is None:
        return False
    return hour > latest[name]


def _ways_of(harbour, ships, state, name, latest):
    """Return the ways of the ship with this name in the state, ascending, as if no other ship moved."""
    hour, places = state
    ready, _, draught, _, _, _, _ = ships[name]
    berth, left = places[name]
    if not can_pass(harbour, draught, hour):
        return [STAYS]
    if places[name] == AT_SEA and hour >= ready:
        return [STAYS] + berths_for(harbour, ships[name], [taken for taken, _ in places])
    if berth >= 0 and left == 0 and not _is_too_late(latest, name, hour):
        return [LEAVES, STAYS]
    return [STAYS]


def _moves_told(choice):
    """Return the moves of an hour with this choice of ways."""
    movers = [(name, way) for name, way in enumerate(choice) if way != STAYS]
    return tuple([(name, OUT if way == LEAVES else way) for name, way in movers])


def moves_in(harbour, ships, state, *, latest=None):
    """Return all moves that can be made in the state, ascending."""
    if state[0] > harbour[4] or _is_end(state):
        return []
    ways = [_ways_of(harbour, ships, state, name, latest) for name in range(len(ships))]
    return sorted([_moves_told(choice) for choice in choices_of(harbour, ships, ways)])


def cost_in(ships, state, moves):
    """Return the cost of the moves in the state."""
    hour, places = state
    movers = [name for name, _ in moves]
    cost = 0
    for name, ship in enumerate(ships):
        if name in movers:
            continue
        ready, _, _, _, _, sea, lie = ship
        berth, left = places[name]
        if places[name] == AT_SEA and hour >= ready:
            cost += sea
        if berth >= 0 and left == 0:
            cost += lie
    return cost


def _place_behind(ship, place, berth):
    """Return the place of the ship behind an hour with what stood for her in its moves, None if she did not move."""
    if berth == OUT:
        return GONE
    if berth is not None:
        return (berth, ship[3])
    return (place[0], max(0, place[1] - 1))


def after_moves(ships, state, moves):
    """Return the state behind the moves in the state."""
    hour, places = state
    told = dict(moves)
    return (hour + 1, tuple([_place_behind(ships[name], place, told.get(name)) for name, place in enumerate(places)]))


def _steps_of(harbour, ships, state, latest):
    """Return the steps of the state."""
    found = []
    for moves in moves_in(harbour, ships, state, latest=latest):
        found.append((moves, cost_in(ships, state, moves), [after_moves(ships, state, moves)]))
    return found


def _levels_of(harbour, ships, state, latest):
    """Return the states that can be come to from the state, hour by hour, with their steps."""
    return levels_from([state], lambda reached: _steps_of(harbour, ships, reached, latest))


def _rest_by(step, rests):
    """Return the rest of a state whose moves of this hour are those of the step."""
    _, cost, behind = step
    return plus(cost, rests[behind[0]])


def _rests_in(levels):
    """Return the rest of each state in the levels."""
    rests = {}
    for level in reversed(levels):
        for state, steps in level.items():
            rests[state] = 0 if _is_end(state) else least_of([_rest_by(step, rests) for step in steps])
    return rests


def rests_from(harbour, ships, state, *, latest=None):
    """Return the rest of each state that can be come to from the state, itself with them."""
    return _rests_in(_levels_of(harbour, ships, state, latest))


def rest_of(harbour, ships, state, *, latest=None):
    """Return the rest of the state."""
    return rests_from(harbour, ships, state, latest=latest)[state]


def least_cost(harbour, ships, *, latest=None):
    """Return the least cost."""
    return rest_of(harbour, ships, beginning(ships), latest=latest)


def _best_steps(steps, rest, rests):
    """Return those of the steps of a state that reach its rest; none if it is None."""
    if rest is None:
        return []
    return [step for step in steps if _rest_by(step, rests) == rest]


def best_moves(harbour, ships, state, *, latest=None):
    """Return the moves in the state that reach its rest, ascending."""
    levels = _levels_of(harbour, ships, state, latest)
    rests = _rests_in(levels)
    return [moves for moves, _, _ in _best_steps(levels[0][state], rests[state], rests)]


def best_way(harbour, ships, state, *, latest=None):
    """Return the first of the best moves of each hour, from the state up to an end, or None if its rest is None."""
    levels = _levels_of(harbour, ships, state, latest)
    rests = _rests_in(levels)
    if rests[state] is None:
        return None
    found = []
    reached = state
    while not _is_end(reached):
        moves, _, behind = _best_steps(levels[len(found)][reached], rests[reached], rests)[0]
        found.append(moves)
        reached = behind[0]
    return found


def _best_levels(harbour, ships, latest):
    """Return the states that best plans come to, hour by hour, with the steps of the best plans."""
    start = beginning(ships)
    levels = _levels_of(harbour, ships, start, latest)
    rests = _rests_in(levels)
    return levels_from([start], lambda state: _best_steps(levels[state[0]][state], rests[state], rests))


def _with_moves(plan, hour, moves):
    """Return what is known of a plan behind these moves of the hour, with these moves."""
    found = list(plan)
    for name, berth in moves:
        if berth == OUT:
            found[name] = (0, 0, hour)
        else:
            found[name] = (hour, berth, plan[name][2])
    return found


def best_plan(harbour, ships, *, latest=None):
    """Return the first best plan, or None if there is no plan."""
    # From one state on all plans tell the same of each ship, so the first of their ends makes the first plan.
    firsts = {}
    for level in reversed(_best_levels(harbour, ships, latest)):
        for state, steps in level.items():
            plans = [_with_moves(firsts[behind[0]], state[0], moves) for moves, _, behind in steps]
            firsts[state] = [(0, 0, 0) for _ in ships] if _is_end(state) else min(plans, default=None)
    return firsts[beginning(ships)]


def _count_in(levels, state):
    """Return the number of the ways from the state, the only one of its hour, to the ends in the levels."""
    counts = {}
    for level in reversed(levels):
        for reached, steps in level.items():
            counts[reached] = 1 if _is_end(reached) else sum([counts[behind[0]] for _, _, behind in steps])
    return counts[state]


def count_plans(harbour, ships, *, latest=None):
    """Return the number of the plans."""
    start = beginning(ships)
    return _count_in(_levels_of(harbour, ships, start, latest), start)


def count_best(harbour, ships, *, latest=None):
    """Return the number of the best plans."""
    return _count_in(_best_levels(harbour, ships, latest), beginning(ships))


def table_of(harbour, ships, *, latest=None):
    """Return the table of all states that can be come to from the beginning, with their rests."""
    rests = rests_from(harbour, ships, beginning(ships), latest=latest)
    return [(hour, places, rests[(hour, places)]) for hour, places in sorted(rests)]


def _is_place(harbour, ship, place):
    berth, left = place
    if place in (AT_SEA, GONE):
        return True
    return 0 <= berth < len(harbour[1]) and 0 <= left <= ship[3]


def _is_state(harbour, ships, state):
    """Tell whether an hour and places are a state."""
    hour, places = state
    if not 0 <= hour <= harbour[4] + 1 or len(places) != len(ships):
        return False
    if not all([_is_place(harbour, ship, place) for ship, place in zip(ships, places)]):
        return False
    berths = [berth for berth, _ in places if berth >= 0]
    return all([berths.count(berth) == 1 for berth in berths])


def _is_bound_right(harbour, ships, state, bounds, latest):
    """Tell whether the bound of the state is right beside the bounds of all states of a table."""
    bound = bounds[state]
    if bound is not None and bound < 0:
        return False
    if _is_end(state):
        return bound == 0
    for step in _steps_of(harbour, ships, state, latest):
        if step[2][0] not in bounds or not is_at_most(bound, _rest_by(step, bounds)):
            return False
    return True


def is_table(harbour, ships, table, *, latest=None):
    """Tell whether the table is right."""
    states = [(hour, places) for hour, places, _ in table]
    bounds = {(hour, places): bound for hour, places, bound in table}
    if beginning(ships) not in bounds:
        return False
    if not all([state < following for state, following in zip(states, states[1:])]):
        return False
    for state in states:
        if not _is_state(harbour, ships, state) or not _is_bound_right(harbour, ships, state, bounds, latest):
            return False
    return True


def _bound_in(ships, table):
    """Return the bound of the beginning in a right table."""
    return [bound for hour, places, bound in table if (hour, places) == beginning(ships)][0]


def _keeps(plan, latest):
    return not any([_is_too_late(latest, name, left) for name, (_, _, left) in enumerate(plan)])


def shows_best(harbour, ships, plan, table, *, latest=None):
    """Tell whether the table shows that the list is a best plan."""
    if len(plan) != len(ships) or not is_plan(harbour, ships, plan) or not _keeps(plan, latest):
        return False
    return is_table(harbour, ships, table, latest=latest) and _bound_in(ships, table) == cost_of(ships, plan)


def shows_none(harbour, ships, table, *, latest=None):
    """Tell whether the table shows that there is no plan."""
    return is_table(harbour, ships, table, latest=latest) and _bound_in(ships, table) is None
