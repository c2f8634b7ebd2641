"""Ships that come when they come: rules of going on, and what they cost for sure."""

from tidewaits.errors import BadNumber, BadSize
from tidewaits.harbours import cost_of, is_within
from tidewaits.levels import levels_from
from tidewaits.moves import LEAVES, STAYS, berths_for, choices_of
from tidewaits.sums import greatest_of, is_at_most, least_of, plus
from tidewaits.tides import can_pass

NOT_COME = (0,)
AT_SEA = (1,)
# The first number of the place of a ship that lies at a berth.
LIES = 2
GONE = (3,)


def check_spans(ships, spans):
    """Raise the first error that is due for the spans."""
    if len(spans) != len(ships):
        raise BadSize()
    for ship, span in zip(ships, spans):
        if not is_within(span, 0, 3) or ship[0] + span > 20:
            raise BadNumber()


def ships_at(ships, coming):
    """Return the ships with the hours of the coming as their ready."""
    return [(hour,) + ship[1:] for ship, hour in zip(ships, coming)]


def comings_of(ships, spans):
    """Return all comings, ascending."""
    found = [()]
    for ship, span in zip(ships, spans):
        found = [known + (ship[0] + delay,) for known in found for delay in range(span + 1)]
    return found


def _places_when(ship, span, place, hour):
    """Return the places, ascending, that the ship with this place can have when it is known who comes in the hour."""
    if place != NOT_COME:
        return [place]
    if hour < ship[0]:
        return [NOT_COME]
    if hour < ship[0] + span:
        return [NOT_COME, AT_SEA]
    return [AT_SEA]


def _states_in(ships, spans, hour, places):
    """Return the states, ascending, that these places can become when it is known who comes in the hour."""
    found = [()]
    for ship, span, place in zip(ships, spans, places):
        found = [known + (hers,) for known in found for hers in _places_when(ship, span, place, hour)]
    return [(hour, known) for known in found]


def nobody_yet(ships):
    """Return the places of which none has come."""
    return tuple([NOT_COME for _ in ships])


def first_states(ships, spans):
    """Return the first states, ascending."""
    return _states_in(ships, spans, 0, nobody_yet(ships))


def _can_leave(place):
    return place[0] == LIES and place[2] == 0


def _ways_of(harbour, ship, place, hour, taken):
    """Return the ways of the ship at this place, ascending, as if no other ship moved."""
    if not can_pass(harbour, ship[2], hour):
        return [STAYS]
    if place == AT_SEA:
        return [STAYS] + berths_for(harbour, ship, taken)
    if _can_leave(place):
        return [LEAVES, STAYS]
    return [STAYS]


def moves_of(harbour, ships, state):
    """Return the moves of the state, ascending."""
    hour, places = state
    taken = [place[1] for place in places if place[0] == LIES]
    ways = [_ways_of(harbour, ship, place, hour, taken) for ship, place in zip(ships, places)]
    return choices_of(harbour, ships, ways)


def cost_of_move(ships, state, move):
    """Return the cost of the move."""
    cost = 0
    for ship, place, way in zip(ships, state[1], move):
        if way == STAYS and place == AT_SEA:
            cost += ship[5]
        if way == STAYS and _can_leave(place):
            cost += ship[6]
    return cost


def _place_behind(ship, place, way):
    """Return the place of the ship when the hour is over."""
    if way == LEAVES:
        return GONE
    if way != STAYS:
        return (LIES, way, ship[3])
    if place[0] == LIES:
        return (LIES, place[1], max(0, place[2] - 1))
    return place


def _places_behind(ships, places, move):
    """Return the places when the hour is over."""
    return tuple([_place_behind(ship, place, way) for ship, place, way in zip(ships, places, move)])


def is_end(state, move):
    """Tell whether all ships have gone out behind the move."""
    return all([place == GONE or way == LEAVES for place, way in zip(state[1], move)])


def _misses(harbour, state, move):
    """Tell whether the hour is the last one, and ships are left behind the move."""
    return state[0] >= harbour[4] and not is_end(state, move)


def states_behind(harbour, ships, spans, state, move):
    """Return the states behind the move, ascending; none if it is an end or misses."""
    if is_end(state, move) or _misses(harbour, state, move):
        return []
    hour, places = state
    return _states_in(ships, spans, hour + 1, _places_behind(ships, places, move))


def steps_of(harbour, ships, spans, state):
    """Return the tuples of each move that does not miss, its cost, and the states behind it: none if it is an end."""
    found = []
    for move in moves_of(harbour, ships, state):
        if not _misses(harbour, state, move):
            behind = states_behind(harbour, ships, spans, state, move)
            found.append((move, cost_of_move(ships, state, move), behind))
    return found


def _levels_of(harbour, ships, spans):
    """Return the states that can be reached, hour by hour, with their steps."""
    return levels_from(first_states(ships, spans), lambda state: steps_of(harbour, ships, spans, state))


def _number_by(step, numbers):
    """Return the sure number of a state whose move is that of the step."""
    _, cost, behind = step
    return plus(cost, greatest_of([numbers[state] for state in behind])) if behind else cost


def _numbers_in(levels):
    """Return the sure number of each state in the levels."""
    numbers = {}
    for level in reversed(levels):
        for state, steps in level.items():
            numbers[state] = least_of([_number_by(step, numbers) for step in steps])
    return numbers


def sure_cost(harbour, ships, spans):
    """Return the sure cost."""
    numbers = _numbers_in(_levels_of(harbour, ships, spans))
    return greatest_of([numbers[state] for state in first_states(ships, spans)])


def sure_table(harbour, ships, spans):
    """Return all states that can be reached, with their sure numbers, ascending."""
    numbers = _numbers_in(_levels_of(harbour, ships, spans))
    return [(state, numbers[state]) for state in sorted(numbers)]


def _first_sure(steps, number, numbers):
    """Return the first move of the steps that reaches the number, which is not None."""
    return [step[0] for step in steps if _number_by(step, numbers) == number][0]


def sure_rule(harbour, ships, spans):
    """Return all states that can be reached, with the first move that reaches their sure number, ascending."""
    levels = _levels_of(harbour, ships, spans)
    numbers = _numbers_in(levels)
    nobody = tuple([STAYS for _ in ships])
    found = []
    for level in levels:
        for state in sorted(level):
            number = numbers[state]
            found.append((state, nobody if number is None else _first_sure(level[state], number, numbers)))
    return found


def _is_upper_by(step, number, numbers):
    """Tell whether the step shows that the number, which is not None, is not too little for its state."""
    for state in step[2]:
        if state not in numbers:
            return False
    return is_at_most(_number_by(step, numbers), number)


def is_sure_upper(harbour, ships, spans, rows):
    """Tell whether the list is upper."""
    numbers = {state: number for state, number in rows}
    if len(numbers) < len(rows) or not all([state in numbers for state in first_states(ships, spans)]):
        return False
    for state, number in rows:
        if number is not None:
            steps = steps_of(harbour, ships, spans, state)
            if not any([_is_upper_by(step, number, numbers) for step in steps]):
                return False
    return True


def _is_lower_by(step, number, numbers):
    """Tell whether the step shows that the number is not too much for its state, as far as it goes."""
    _, cost, behind = step
    if not behind:
        return is_at_most(number, cost)
    return any([is_at_most(number, plus(cost, numbers[state])) for state in behind if state in numbers])


def is_sure_lower(harbour, ships, spans, rows):
    """Tell whether the list is lower."""
    numbers = {state: number for state, number in rows}
    if len(numbers) < len(rows) or not any([state in numbers for state in first_states(ships, spans)]):
        return False
    for state, number in rows:
        steps = steps_of(harbour, ships, spans, state)
        if not all([_is_lower_by(step, number, numbers) for step in steps]):
            return False
    return True


def _told_by(rule):
    """Return the move that the rule tells for each state in it."""
    told = {}
    for state, move in rule:
        # Of several tuples with one state the first one counts.
        if state not in told:
            told[state] = move
    return told


def _move_in(harbour, ships, state, told):
    """Return the move that is made in the state."""
    move = told.get(state)
    if move in moves_of(harbour, ships, state):
        return move
    return tuple([STAYS for _ in ships])


def _with_move(plan, hour, move):
    """Return what is known of a plan behind the move in the hour."""
    found = list(plan)
    for name, way in enumerate(move):
        if way == LEAVES:
            found[name] = plan[name] + (hour,)
        elif way != STAYS:
            found[name] = (hour, way)
    return found


def _plan_told(harbour, ships, told, coming):
    """Return the plan in the coming, or None."""
    places = nobody_yet(ships)
    plan = [() for _ in ships]
    for hour in range(harbour[4] + 1):
        places = tuple([AT_SEA if hour == hers else place for hers, place in zip(coming, places)])
        state = (hour, places)
        move = _move_in(harbour, ships, state, told)
        plan = _with_move(plan, hour, move)
        if is_end(state, move):
            return plan
        places = _places_behind(ships, places, move)
    return None


def _cost_told(harbour, ships, told, coming):
    """Return the cost in the coming, or None."""
    plan = _plan_told(harbour, ships, told, coming)
    return None if plan is None else cost_of(ships_at(ships, coming), plan)


def plan_by(harbour, ships, rule, coming):
    """Return the plan for the ships of the coming that is made by the rule, or None."""
    return _plan_told(harbour, ships, _told_by(rule), coming)


def cost_by(harbour, ships, rule, coming):
    """Return the cost of the plan that is made by the rule in the coming, or None."""
    return _cost_told(harbour, ships, _told_by(rule), coming)


def costs_by(harbour, ships, rule, comings):
    """Return the cost, or None, for each of the comings."""
    told = _told_by(rule)
    return [_cost_told(harbour, ships, told, coming) for coming in comings]


def worst_coming(harbour, ships, spans, rule):
    """Return the first of the comings for which the cost by the rule is greatest."""
    comings = comings_of(ships, spans)
    costs = costs_by(harbour, ships, rule, comings)
    return comings[costs.index(greatest_of(costs))]
