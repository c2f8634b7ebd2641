"""Harbours, ships and plans: what is wrong with them, and what plans cost."""

from tidewaits.errors import BadNumber, BadShip, BadSize

SHIP_BOUNDS = ((0, 20), (1, 9), (0, 40), (1, 4), (0, 3), (0, 9), (0, 9))


def is_within(value, least, most):
    """Tell whether any value is a whole number from the least to the most one."""
    # True and False are ints of Python, but no whole numbers here.
    if isinstance(value, bool) or not isinstance(value, int):
        return False
    return least <= value <= most


def _check_number(value, least, most):
    if not is_within(value, least, most):
        raise BadNumber()


def _check_list(values, longest, least, most):
    if not 1 <= len(values) <= longest:
        raise BadSize()
    for value in values:
        _check_number(value, least, most)


def check_harbour(harbour):
    """Raise the first error that is due for the harbour."""
    depths, berths, tugs, pilots, last = harbour
    _check_list(depths, 12, 0, 40)
    _check_list(berths, 2, 1, 9)
    _check_number(tugs, 0, 6)
    _check_number(pilots, 1, 3)
    _check_number(last, 1, 40)


def is_ship(ship):
    """Tell whether all numbers of the ship are within their bounds."""
    return all([is_within(value, least, most) for value, (least, most) in zip(ship, SHIP_BOUNDS)])


def check_ships(ships):
    """Raise the first error that is due for the list of ships."""
    if not 1 <= len(ships) <= 3:
        raise BadSize()
    for name, ship in enumerate(ships):
        if not is_ship(ship):
            raise BadShip(name)


def depth_at(harbour, hour):
    """Return the depth of the hour."""
    depths = harbour[0]
    return depths[hour % len(depths)]


def _share_hour(one, other):
    """Tell whether a berth is in some hour that of two ships with these tuples."""
    return one[1] == other[1] and one[0] <= other[2] and other[0] <= one[2]


def _wrong_with(harbour, ships, plan, name):
    """Return the word for what is wrong with one ship, or None."""
    _, berths, _, _, last = harbour
    ready, length, draught, stay, _, _, _ = ships[name]
    came, berth, left = plan[name]
    if came < ready or left - came < stay + 1:
        return "early"
    if left > last:
        return "late"
    if not 0 <= berth < len(berths) or berths[berth] < length:
        return "berth"
    if depth_at(harbour, came) < draught or depth_at(harbour, left) < draught:
        return "depth"
    if any([_share_hour(plan[name], other) for other in plan[:name]]):
        return "taken"
    return None


def _movers(plan, hour):
    """Return the names of the ships that move in the hour."""
    return [name for name, (came, _, left) in enumerate(plan) if hour in (came, left)]


def _wrong_together(harbour, ships, plan):
    """Return what is wrong with the ships' moves together, or None."""
    _, _, tugs, pilots, _ = harbour
    hours = sorted(set([came for came, _, _ in plan] + [left for _, _, left in plan]))
    for hour in hours:
        if sum([ships[name][4] for name in _movers(plan, hour)]) > tugs:
            return ("tugs", hour)
    for hour in hours:
        if len(_movers(plan, hour)) > pilots:
            return ("pilots", hour)
    return None


def wrong_in(harbour, ships, plan):
    """Return what is wrong with a list of tuples, or None if it is a plan."""
    for name in range(len(ships)):
        word = _wrong_with(harbour, ships, plan, name)
        if word is not None:
            return (word, name)
    return _wrong_together(harbour, ships, plan)


def is_plan(harbour, ships, plan):
    """Tell whether a list of tuples is a plan."""
    return wrong_in(harbour, ships, plan) is None


def waits(ships, plan):
    """Return the waits of each ship, at sea and at the berth."""
    found = []
    for ship, (came, _, left) in zip(ships, plan):
        ready, _, _, stay, _, _, _ = ship
        found.append((came - ready, left - came - stay - 1))
    return found


def cost_of(ships, plan):
    """Return the cost of the plan."""
    cost = 0
    for ship, (at_sea, at_berth) in zip(ships, waits(ships, plan)):
        _, _, _, _, _, sea, lie = ship
        cost += at_sea * sea + at_berth * lie
    return cost


def _cost_in_hour(ships, plan, hour):
    """Return what the ships that wait in the hour cost in it."""
    cost = 0
    for ship, (came, _, left) in zip(ships, plan):
        ready, _, _, stay, _, sea, lie = ship
        if ready <= hour < came:
            cost += sea
        if came + stay < hour < left:
            cost += lie
    return cost


def hour_costs(ships, plan):
    """Return what each hour costs, up to the last one in which a ship goes out."""
    end = max([left for _, _, left in plan])
    return [_cost_in_hour(ships, plan, hour) for hour in range(end + 1)]
