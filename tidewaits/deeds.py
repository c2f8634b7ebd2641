"""What a console has, and what each deed makes of it.

A standing is a tuple `(ships, hour, latest, way)`: the ships, the hour, a promise or None for each ship, and the moves
of each hour from 0 on, up to an end. Those ahead of the hour have been done; all of them make the plan. Nothing in a
standing is ever changed, so that one that was left can be come back to.
"""

from tidewaits.best import AT_SEA, GONE, OUT, after_moves, beginning, best_way, rest_of
from tidewaits.errors import BadHour, BadShip, BadSize, Clash, NotSo, NoWay
from tidewaits.harbours import cost_of, is_ship, is_within
from tidewaits.promises import latest_of, parts_of


def _moves_done(way, hour):
    """Return the moves of each hour ahead of this one; in those behind an end nothing moves."""
    return (way + [()] * hour)[:hour]


def _state_behind(ships, done):
    """Return the state behind the moves that have been done."""
    state = beginning(ships)
    for moves in done:
        state = after_moves(ships, state, moves)
    return state


def state_in(standing):
    """Return the state."""
    ships, hour, _, way = standing
    return _state_behind(ships, _moves_done(way, hour))


def plan_in(standing):
    """Return the plan."""
    ships, _, _, way = standing
    rows = [() for _ in ships]
    for hour, moves in enumerate(way):
        for name, berth in moves:
            rows[name] = rows[name] + ((hour,) if berth == OUT else (hour, berth))
    return rows


def cost_in_all(standing):
    """Return the cost of the plan."""
    return cost_of(standing[0], plan_in(standing))


def _standing_with(harbour, ships, latest, done):
    """Return the standing behind the moves that have been done, or None if there is no way."""
    rest = best_way(harbour, ships, _state_behind(ships, done), latest=latest)
    return None if rest is None else (ships, len(done), latest, done + rest)


def _is_way(harbour, ships, latest, done):
    """Tell whether there is a way behind the moves that have been done."""
    return rest_of(harbour, ships, _state_behind(ships, done), latest=latest) is not None


def first_standing(harbour, ships):
    """Return what a console has at first, or raise NoWay."""
    standing = _standing_with(harbour, list(ships), [None for _ in ships], [])
    if standing is None:
        raise NoWay()
    return standing


def go_on(harbour, standing, hour):
    """Return the standing when time has gone on to the hour, and what was done by then."""
    ships, now, latest, way = standing
    if not is_within(hour, now, harbour[4] + 1):
        raise BadHour()
    told = [(at, name, berth) for at, moves in enumerate(way) if now <= at < hour for name, berth in moves]
    return ((ships, hour, latest, way), told)


def tell_ship(harbour, standing, ship):
    """Return the standing with one ship more, and by how much the cost rises."""
    ships, now, latest, way = standing
    if len(ships) >= 3:
        raise BadSize()
    if not is_ship(ship):
        raise BadShip(len(ships))
    if ship[0] < now:
        raise BadHour()
    found = _standing_with(harbour, ships + [ship], latest + [None], _moves_done(way, now))
    if found is None:
        raise NoWay()
    return (found, cost_in_all(found) - cost_in_all(standing))


def _check_name(ships, name):
    """Raise BadShip if any value is not the name of a ship."""
    if not is_within(name, 0, len(ships) - 1):
        raise BadShip(name)


def _put(values, at, value):
    """Return the values with this one at the position."""
    return values[:at] + [value] + values[at + 1:]


def _clash_with(harbour, standing, ship, hour):
    """Return the first list of ships with promises for which there is no way beside this promise alone."""
    ships, now, latest, way = standing
    done = _moves_done(way, now)
    parts = parts_of([name for name in range(len(ships)) if latest[name] is not None])
    # The last part, which is all promises, is such a list.
    at = 0
    while _is_way(harbour, ships, _put(latest_of(latest, parts[at]), ship, hour), done):
        at += 1
    return parts[at]


def make_promise(harbour, standing, ship, hour):
    """Return the standing with the promise of this hour to the ship, and by how much the cost rises."""
    ships, now, latest, way = standing
    _check_name(ships, ship)
    if not is_within(hour, 0, 100):
        raise BadHour()
    if latest[ship] is not None or state_in(standing)[1][ship] == GONE:
        raise NotSo()
    found = _standing_with(harbour, ships, _put(latest, ship, hour), _moves_done(way, now))
    if found is None:
        raise Clash(_clash_with(harbour, standing, ship, hour))
    return (found, cost_in_all(found) - cost_in_all(standing))


def release_ship(harbour, standing, ship):
    """Return the standing without the promise to the ship, and by how much the cost falls."""
    ships, now, latest, way = standing
    _check_name(ships, ship)
    if latest[ship] is None:
        raise NotSo()
    # With a promise less there is still a way.
    found = _standing_with(harbour, ships, _put(latest, ship, None), _moves_done(way, now))
    return (found, cost_in_all(standing) - cost_in_all(found))


def _promises_that_stay(harbour, ships, latest, done):
    """Return which of the promises stay, gone through ship by ship; there is a way without any."""
    kept = [None for _ in ships]
    for name, hour in enumerate(latest):
        more = _put(kept, name, hour)
        if hour is not None and _is_way(harbour, ships, more, done):
            kept = more
    return kept


def delay_ship(harbour, standing, ship, hour):
    """Return the standing with this hour as the ready of the ship, and the ships whose promises do not stay."""
    ships, now, latest, way = standing
    _check_name(ships, ship)
    if state_in(standing)[1][ship] != AT_SEA:
        raise NotSo()
    if not is_within(hour, max(now, ships[ship][0]), 20):
        raise BadHour()
    late = _put(ships, ship, (hour,) + ships[ship][1:])
    done = _moves_done(way, now)
    if not _is_way(harbour, late, None, done):
        raise NoWay()
    kept = _promises_that_stay(harbour, late, latest, done)
    lost = [name for name in range(len(ships)) if kept[name] != latest[name]]
    return (_standing_with(harbour, late, kept, done), lost)
