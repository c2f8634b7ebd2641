"""Ships that come by chances: what rules cost in the mean."""

from math import gcd

from tidewaits.errors import BadNumber, BadSize
from tidewaits.harbours import is_within
from tidewaits.late import NOT_COME, comings_of, costs_by, first_states, nobody_yet, steps_of
from tidewaits.levels import levels_from
from tidewaits.shares import is_share_at_most, least_share, lowest, times, total_of


def _is_chance(chance):
    n, d = chance
    return is_within(d, 1, 100) and is_within(n, 0, d) and gcd(n, d) == 1


def _check_row(ship, row):
    """Raise BadNumber if the chances of the ship are not as told."""
    if not all([_is_chance(chance) for chance in row]):
        raise BadNumber()
    if total_of(row) != (1, 1) or ship[0] + len(row) - 1 > 20:
        raise BadNumber()


def check_chances(ships, chances):
    """Raise the first error that is due for the chances."""
    if len(chances) != len(ships) or not all([1 <= len(row) <= 4 for row in chances]):
        raise BadSize()
    for ship, row in zip(ships, chances):
        _check_row(ship, row)


def spans_of(chances):
    """Return the spans."""
    return [len(row) - 1 for row in chances]


def _product_of(shares):
    """Return the product of the shares."""
    found = (1, 1)
    for share in shares:
        found = times(found, share)
    return found


def chance_of(ships, chances, coming):
    """Return the chance of the coming."""
    return _product_of([row[hour - ship[0]] for ship, row, hour in zip(ships, chances, coming)])


def _chance_to_come(ship, row, hour):
    """Return the chance that the ship comes in the hour if she has not come ahead of it."""
    late = hour - ship[0]
    if late < 0:
        return (0, 1)
    n, d = row[late]
    still = total_of(row[late:])
    return lowest(n * still[1], d * still[0])


def _chance_so(ship, row, hour, place):
    """Return the chance of the place in the hour, at sea or not, for a ship that has not come ahead of it."""
    n, d = _chance_to_come(ship, row, hour)
    return (d - n, d) if place == NOT_COME else (n, d)


def _chance_behind(ships, chances, places, state):
    """Return the chance of the state for ships that had these places ahead of its hour."""
    hour, reached = state
    found = []
    for name, place in enumerate(places):
        if place == NOT_COME:
            found.append(_chance_so(ships[name], chances[name], hour, reached[name]))
    return _product_of(found)


def _likely(ships, chances, places, states):
    """Return those of the states whose chance is not 0, and their chances, for ships that had these places."""
    found = [(state, _chance_behind(ships, chances, places, state)) for state in states]
    found = [(state, chance) for state, chance in found if chance[0] > 0]
    return ([state for state, _ in found], [chance for _, chance in found])


def _first_likely(ships, chances):
    """Return the first states whose chance is not 0, and their chances."""
    return _likely(ships, chances, nobody_yet(ships), first_states(ships, spans_of(chances)))


def _mean_steps(harbour, ships, chances, state):
    """Return the tuples of each move that does not miss, its cost, the states behind it, and their chances."""
    found = []
    for move, cost, behind in steps_of(harbour, ships, spans_of(chances), state):
        states, shares = _likely(ships, chances, state[1], behind)
        found.append((move, cost, states, shares))
    return found


def _levels_of(harbour, ships, chances):
    """Return the states that can be reached, hour by hour, with their steps."""
    states, _ = _first_likely(ships, chances)
    return levels_from(states, lambda state: _mean_steps(harbour, ships, chances, state))


def _mean_over(states, shares, numbers):
    """Return the sum of the numbers of the states times their chances."""
    return total_of([times(numbers[state], share) for state, share in zip(states, shares)])


def _mean_by(step, numbers):
    """Return the mean number of a state whose move is that of the step."""
    _, cost, states, shares = step
    return total_of([(cost, 1), _mean_over(states, shares, numbers)])


def _means_in(levels):
    """Return the mean number of each state in the levels."""
    numbers = {}
    for level in reversed(levels):
        for state, steps in level.items():
            numbers[state] = least_share([_mean_by(step, numbers) for step in steps])
    return numbers


def mean_cost(harbour, ships, chances):
    """Return the least mean cost."""
    numbers = _means_in(_levels_of(harbour, ships, chances))
    states, shares = _first_likely(ships, chances)
    return _mean_over(states, shares, numbers)


def mean_table(harbour, ships, chances):
    """Return all states that can be reached, with their mean numbers, ascending."""
    numbers = _means_in(_levels_of(harbour, ships, chances))
    return [(state, numbers[state]) for state in sorted(numbers)]


def _holds_firsts(ships, chances, rows, numbers):
    """Tell whether no state is twice in the rows, and each first state is in them."""
    if len(numbers) < len(rows):
        return False
    states, _ = _first_likely(ships, chances)
    return all([state in numbers for state in states])


def _holds_behind(step, numbers):
    return all([state in numbers for state in step[2]])


def is_mean_upper(harbour, ships, chances, rows):
    """Tell whether the list is mean upper."""
    numbers = {state: number for state, number in rows}
    if not _holds_firsts(ships, chances, rows, numbers):
        return False
    for state, number in rows:
        if number is None:
            continue
        steps = [step for step in _mean_steps(harbour, ships, chances, state) if _holds_behind(step, numbers)]
        if not any([is_share_at_most(_mean_by(step, numbers), number) for step in steps]):
            return False
    return True


def is_mean_lower(harbour, ships, chances, rows):
    """Tell whether the list is mean lower."""
    numbers = {state: number for state, number in rows}
    if not _holds_firsts(ships, chances, rows, numbers):
        return False
    for state, number in rows:
        for step in _mean_steps(harbour, ships, chances, state):
            if not _holds_behind(step, numbers) or not is_share_at_most(number, _mean_by(step, numbers)):
                return False
    return True


def mean_of(harbour, ships, rule, chances):
    """Return the mean cost of the rule."""
    spans = spans_of(chances)
    found = [(coming, chance_of(ships, chances, coming)) for coming in comings_of(ships, spans)]
    found = [(coming, chance) for coming, chance in found if chance[0] > 0]
    costs = costs_by(harbour, ships, rule, [coming for coming, _ in found])
    means = [None if cost is None else times((cost, 1), chance) for cost, (_, chance) in zip(costs, found)]
    return total_of(means)
