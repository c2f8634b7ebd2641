"""When a draught can pass, and the plans of a ship that is alone."""

from tidewaits.harbours import cost_of, depth_at


def can_pass(harbour, draught, hour):
    """Tell whether the draught can pass in the hour."""
    return depth_at(harbour, hour) >= draught


def tides(harbour, draught, *, until):
    """Return the tides of the draught in the hours from 0 until the last one that counts."""
    found = []
    start = None
    for hour in range(until + 1):
        if not can_pass(harbour, draught, hour):
            start = None
        elif start is None:
            start = hour
            found.append((start, hour))
        else:
            found[-1] = (start, hour)
    return found


def next_passing(harbour, draught, hour):
    """Return the least hour from this one on in which the draught can pass, or None."""
    # What the depths do not bring in one round they never bring.
    for wait in range(len(harbour[0])):
        if can_pass(harbour, draught, hour + wait):
            return hour + wait
    return None


def turn_of(harbour):
    """Return the turn of the harbour."""
    depths = harbour[0]
    turn = 1
    # The round moved on by the turn is the same round; by its whole length it always is.
    while depths[turn:] + depths[:turn] != depths:
        turn += 1
    return turn


def greatest_wait(harbour, draught):
    """Return the greatest wait for the draught, or None if it can never pass."""
    if next_passing(harbour, draught, 0) is None:
        return None
    return max([next_passing(harbour, draught, hour) - hour for hour in range(len(harbour[0]))])


def _first_berth(harbour, ship):
    """Return the first berth that is long enough for the ship, or None."""
    for berth, length in enumerate(harbour[1]):
        if length >= ship[1]:
            return berth
    return None


def _plans_alone(harbour, ship):
    """Return the plans, ascending, in which she takes her first berth and goes out as soon as she can."""
    ready, _, draught, stay, tugs, _, _ = ship
    berth = _first_berth(harbour, ship)
    if berth is None or tugs > harbour[2]:
        return []
    last = harbour[4]
    found = []
    for came in range(ready, last + 1):
        if can_pass(harbour, draught, came):
            left = next_passing(harbour, draught, came + stay + 1)
            if left <= last:
                found.append((came, berth, left))
    return found


def soonest(harbour, ship):
    """Return the tuple of the soonest plan of the ship alone, or None."""
    plans = _plans_alone(harbour, ship)
    # Who comes in later never goes out sooner, so the first plan has the least hours of both kinds.
    return plans[0] if plans else None


def _cheapest_with_cost(harbour, ship):
    """Return the tuple of the least cost of the ship alone and her cheapest plan, or None."""
    # To wait longer at the berth never costs less, so the plans that do not are all that count.
    plans = _plans_alone(harbour, ship)
    return min([(cost_of([ship], [plan]), plan) for plan in plans], default=None)


def cheapest(harbour, ship):
    """Return the tuple of the cheapest plan of the ship alone, or None."""
    found = _cheapest_with_cost(harbour, ship)
    return None if found is None else found[1]


def cost_alone(harbour, ship):
    """Return the cost of the cheapest plan of the ship alone, or None."""
    found = _cheapest_with_cost(harbour, ship)
    return None if found is None else found[0]
