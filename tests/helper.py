"""What several tests share: a harbour to start from, and a slow model of plans.

The model says word by word what the document says, hour by hour, and uses nothing of the program.
"""

import itertools

HARBOUR = ([9, 7, 4, 7], [5], 2, 1, 20)
SHIPS = [(0, 5, 6, 2, 1, 3, 1), (1, 4, 8, 1, 2, 2, 2)]
PLAN = [(0, 0, 3), (4, 0, 8)]

NO_WHOLE_NUMBERS = [True, False, None, 1.0, float("nan"), "1", "", b"1", [1], (1,), {}, 1j, object()]

HARBOUR_PARTS = ("depths", "berths", "tugs", "pilots", "last")
SHIP_PARTS = ("ready", "length", "draught", "stay", "tugs", "sea", "lie")


def harbour_with(harbour=HARBOUR, **parts):
    """The harbour with other parts."""
    return tuple([parts.get(name, part) for name, part in zip(HARBOUR_PARTS, harbour)])


def ship_with(ship=SHIPS[0], **parts):
    """The ship with other parts."""
    return tuple([parts.get(name, part) for name, part in zip(SHIP_PARTS, ship)])


def error_of(function, *args, **more):
    """The error that a call raises, or None."""
    try:
        function(*args, **more)
    except ValueError as error:
        return error
    return None


def model_depth(harbour, hour):
    return harbour[0][hour % len(harbour[0])]


def model_word(harbour, ships, plan, name):
    depths, berths, tugs, pilots, last = harbour
    ready, length, draught, stay, needed, sea, lie = ships[name]
    came, berth, left = plan[name]
    if came < ready or left < came + stay + 1:
        return "early"
    if left > last:
        return "late"
    if berth not in range(len(berths)) or length > berths[berth]:
        return "berth"
    if not all(model_depth(harbour, hour) >= draught for hour in (came, left)):
        return "depth"
    for other_came, other_berth, other_left in plan[:name]:
        hers = set(range(came, left + 1))
        if other_berth == berth and hers & set(range(other_came, other_left + 1)):
            return "taken"
    return None


def model_wrong(harbour, ships, plan):
    """What is wrong with the list, or None."""
    for name in range(len(ships)):
        word = model_word(harbour, ships, plan, name)
        if word:
            return (word, name)
    last = harbour[4]
    movers = {hour: [] for hour in range(last + 1)}
    for name, (came, berth, left) in enumerate(plan):
        movers[came].append(name)
        movers[left].append(name)
    for hour in range(last + 1):
        if sum(ships[name][4] for name in movers[hour]) > harbour[2]:
            return ("tugs", hour)
    for hour in range(last + 1):
        if len(movers[hour]) > harbour[3]:
            return ("pilots", hour)
    return None


def model_hour_cost(ships, plan, hour):
    cost = 0
    for (ready, length, draught, stay, needed, sea, lie), (came, berth, left) in zip(ships, plan):
        is_ready, has_come_in, has_gone = hour >= ready, hour >= came, hour >= left
        if is_ready and not has_come_in:
            cost += sea
        lain = len([lying for lying in range(came + 1, left) if lying < hour])
        if has_come_in and lain >= stay and hour > came and not has_gone:
            cost += lie
    return cost


def model_cost(ships, plan):
    return sum(model_hour_cost(ships, plan, hour) for hour in range(max(left for _, _, left in plan) + 1))


def tuples_alone(harbour, ship):
    """All tuples that are plans of the ship alone."""
    hours = range(harbour[4] + 1)
    found = itertools.product(hours, range(len(harbour[1])), hours)
    return [row for row in found if model_wrong(harbour, [ship], [row]) is None]


def model_plans(harbour, ships):
    """All plans of the ships."""
    rows = [tuples_alone(harbour, ship) for ship in ships]
    return [list(plan) for plan in itertools.product(*rows) if model_wrong(harbour, ships, list(plan)) is None]


def some_harbour(chance, *, last=None):
    """A harbour that passes the checks; the source of chance is seeded by the test."""
    depths = [chance.randint(0, 40) for _ in range(chance.randint(1, 12))]
    berths = [chance.randint(1, 9) for _ in range(chance.randint(1, 2))]
    return (depths, berths, chance.randint(0, 6), chance.randint(1, 3), last or chance.randint(1, 40))


def some_ship(chance, *, latest_ready=20):
    """A ship that passes the checks."""
    sizes = (chance.randint(0, latest_ready), chance.randint(1, 9), chance.randint(0, 40), chance.randint(1, 4))
    return sizes + (chance.randint(0, 3), chance.randint(0, 9), chance.randint(0, 9))
