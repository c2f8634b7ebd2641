"""What tugs, pilots, depth, ships and berths are worth."""

from tidewaits.best import least_cost
from tidewaits.falls import first_so, steps_over
from tidewaits.sums import is_at_most

GREATEST_DRAUGHT = 40


def _with_tugs(harbour, tugs):
    depths, berths, _, pilots, last = harbour
    return (depths, berths, tugs, pilots, last)


def _with_pilots(harbour, pilots):
    depths, berths, tugs, _, last = harbour
    return (depths, berths, tugs, pilots, last)


def _deeper(harbour, more):
    depths, berths, tugs, pilots, last = harbour
    return ([depth + more for depth in depths], berths, tugs, pilots, last)


def _without_berth(harbour, berth):
    depths, berths, tugs, pilots, last = harbour
    return (depths, berths[:berth] + berths[berth + 1:], tugs, pilots, last)


def _with_draught(ships, name, draught):
    """Return the ships, of which the one with this name has this draught."""
    ready, length, _, stay, tugs, sea, lie = ships[name]
    return ships[:name] + [(ready, length, draught, stay, tugs, sea, lie)] + ships[name + 1:]


def _tugs_wanted(ships):
    """Return the numbers of tugs, ascending, that can be wanted."""
    return list(range(sum([ship[4] for ship in ships]) + 1))


def _pilots_wanted(ships):
    """Return the numbers of pilots, ascending, that can be wanted."""
    return list(range(len(ships) + 1))


def _depths_wanted(harbour, ships):
    """Return the depths more, ascending, with which some ship can pass in some hour in which she can with none less."""
    lacks = [ship[2] - depth for ship in ships for depth in harbour[0]]
    return sorted(set([0] + [lack for lack in lacks if lack > 0]))


def _is_enough(harbour, ships, cost):
    """Tell whether some plan costs at most this cost."""
    return is_at_most(least_cost(harbour, ships), cost)


def least_tugs(harbour, ships, *, cost):
    """Return the least tugs for the cost, or None."""
    return first_so(_tugs_wanted(ships), lambda tugs: _is_enough(_with_tugs(harbour, tugs), ships, cost))


def least_pilots(harbour, ships, *, cost):
    """Return the least pilots for the cost, or None."""
    return first_so(_pilots_wanted(ships), lambda pilots: _is_enough(_with_pilots(harbour, pilots), ships, cost))


def least_depth(harbour, ships, *, cost):
    """Return the least depth more for the cost, or None."""
    return first_so(_depths_wanted(harbour, ships), lambda more: _is_enough(_deeper(harbour, more), ships, cost))


def tug_steps(harbour, ships):
    """Return the steps of the tugs."""
    return steps_over(_tugs_wanted(ships), lambda tugs: least_cost(_with_tugs(harbour, tugs), ships))


def pilot_steps(harbour, ships):
    """Return the steps of the pilots."""
    return steps_over(_pilots_wanted(ships), lambda pilots: least_cost(_with_pilots(harbour, pilots), ships))


def depth_steps(harbour, ships):
    """Return the steps of the depth."""
    return steps_over(_depths_wanted(harbour, ships), lambda more: least_cost(_deeper(harbour, more), ships))


def least_pairs(harbour, ships, *, cost):
    """Return the least pairs for the cost, ascending."""
    found = []
    before = None
    for pilots in _pilots_wanted(ships):
        tugs = least_tugs(_with_pilots(harbour, pilots), ships, cost=cost)
        # With a pilot more never more tugs are wanted, so another number is a less one, or the first one.
        if tugs != before:
            found.append((tugs, pilots))
        before = tugs
    return sorted(found)


def cost_of_others(harbour, ships, name):
    """Return the least cost of all ships but the one with this name; 0 if there are no others."""
    return least_cost(harbour, ships[:name] + ships[name + 1:])


def added_by(harbour, ships):
    """Return what each ship adds, or None if there is no plan."""
    least = least_cost(harbour, ships)
    if least is None:
        return None
    return [least - cost_of_others(harbour, ships, name) for name in range(len(ships))]


def spared_by(harbour, ships):
    """Return what each berth spares, None where none is told."""
    least = least_cost(harbour, ships)
    without = [least_cost(_without_berth(harbour, berth), ships) for berth in range(len(harbour[1]))]
    return [None if cost is None else cost - least for cost in without]


def greatest_draught(harbour, ships, ship, *, cost):
    """Return the greatest draught of the ship with this name for the cost, or None."""
    draughts = list(range(GREATEST_DRAUGHT, -1, -1))
    return first_so(draughts, lambda draught: _is_enough(harbour, _with_draught(ships, ship, draught), cost))
