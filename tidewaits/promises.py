"""Hours of going out that are promised, and those that cannot all be."""

from itertools import combinations

from tidewaits.best import best_plan, least_cost
from tidewaits.falls import first_so
from tidewaits.harbours import cost_of


def parts_of(names):
    """Return all parts of the ascending list of names, by their number and then in the order of lists."""
    return [list(part) for many in range(len(names) + 1) for part in combinations(names, many)]


def latest_of(hours, names):
    """Return the hour of each ship that is promised, and None for each other one."""
    return [hour if name in names else None for name, hour in enumerate(hours)]


def can_keep(harbour, ships, hours, names):
    """Tell whether the promises to these ships can be kept."""
    return least_cost(harbour, ships, latest=latest_of(hours, names)) is not None


def best_keeping(harbour, ships, hours, names):
    """Return the cost and the best plan that keeps the promises, or None."""
    plan = best_plan(harbour, ships, latest=latest_of(hours, names))
    return None if plan is None else (cost_of(ships, plan), plan)


def clashes(harbour, ships, hours):
    """Return all clashes, by their number and then in the order of lists."""
    found = []
    for names in parts_of(list(range(len(ships)))):
        # The least ones come first, so a list that cannot be kept is a clash if none of these is a part of it.
        if any([all([name in names for name in clash]) for clash in found]):
            continue
        if not can_keep(harbour, ships, hours, names):
            found.append(names)
    return found


def clash_of(harbour, ships, hours, names, ship):
    """Return the clash of the ship with the promises, or None if there is none."""
    for part in parts_of(names):
        if not can_keep(harbour, ships, hours, part + [ship]):
            return part
    return None


def _with_hour(hours, name, hour):
    """Return the hours, of which that of the ship with this name is this one."""
    return hours[:name] + [hour] + hours[name + 1:]


def soonest_hour(harbour, ships, hours, names, ship):
    """Return the soonest hour for the ship beside the promises."""
    return first_so(
        list(range(harbour[4] + 1)),
        lambda hour: can_keep(harbour, ships, _with_hour(hours, ship, hour), names + [ship]),
    )


def price_of(harbour, ships, hours, names):
    """Return the price of the promises, or None if they cannot be kept."""
    cost = least_cost(harbour, ships, latest=latest_of(hours, names))
    return None if cost is None else cost - least_cost(harbour, ships)


def in_turn(harbour, ships, hours, order):
    """Return the ships that are promised in turn, and those that are refused, each with her clash."""
    names = []
    refused = []
    for ship in order:
        clash = clash_of(harbour, ships, hours, names, ship)
        if clash is None:
            names = sorted(names + [ship])
        else:
            refused.append((ship, clash))
    return (names, refused)
