"""What groups of ships cost at least, and how long the day must be."""

from tidewaits.best import least_cost
from tidewaits.falls import first_so, steps_over
from tidewaits.needs import cost_of_others
from tidewaits.sums import greatest_of, total_of


def group_cost(harbour, ships, names):
    """Return the least cost of the group."""
    return least_cost(harbour, [ships[name] for name in names])


def parting_bound(harbour, ships, groups):
    """Return the bound of the parting."""
    return total_of([group_cost(harbour, ships, names) for names in groups])


def _with_name(groups, name):
    """Return the partings that the ship with this name, who is in no group yet, can make of these groups."""
    found = [groups + [[name]]]
    for at, names in enumerate(groups):
        found.append(groups[:at] + [names + [name]] + groups[at + 1:])
    return found


def _partings_of(ships):
    """Return all partings of the ships, ascending."""
    found = [[]]
    for name in range(len(ships)):
        found = [more for groups in found for more in _with_name(groups, name)]
    return sorted(found)


def closest_parting(harbour, ships):
    """Return the bound and the groups of the closest parting."""
    # A single ship has but the one parting into one group.
    least = min(2, len(ships))
    partings = [groups for groups in _partings_of(ships) if len(groups) >= least]
    found = [parting_bound(harbour, ships, groups) for groups in partings]
    bound = greatest_of(found)
    return (bound, partings[found.index(bound)])


def extra_of(harbour, ships, ship):
    """Return the extra of the ship, or None if there is no plan."""
    least = least_cost(harbour, ships)
    return None if least is None else least - cost_of_others(harbour, ships, ship)


def _cost_by(harbour, ships, last):
    """Return the least cost if the last hour is this one."""
    depths, berths, tugs, pilots, _ = harbour
    return least_cost((depths, berths, tugs, pilots, last), ships)


def _days_of(harbour):
    return list(range(1, harbour[4] + 1))


def shortest_day(harbour, ships):
    """Return the shortest day, or None."""
    return first_so(_days_of(harbour), lambda last: _cost_by(harbour, ships, last) is not None)


def days_that_pay(harbour, ships):
    """Return the days that pay."""
    return steps_over(_days_of(harbour), lambda last: _cost_by(harbour, ships, last))
