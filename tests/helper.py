"""What several tests share: a harbour to start from, and a slow model of plans.

The model says word by word what the document says, hour by hour, and uses nothing of the program.
"""

import fractions
import itertools

HARBOUR = ([9, 7, 4, 7], [5], 2, 1, 20)
SHIPS = [(0, 5, 6, 2, 1, 3, 1), (1, 4, 8, 1, 2, 2, 2)]
PLAN = [(0, 0, 3), (4, 0, 8)]

NO_WHOLE_NUMBERS = [True, False, None, 1.0, float("nan"), "1", "", b"1", [1], (1,), {}, 1j, object()]

HARBOUR_PARTS = ("depths", "berths", "tugs", "pilots", "last")
SHIP_PARTS = ("ready", "length", "draught", "stay", "tugs", "sea", "lie")


def harbour_with(harbour=HARBOUR, **parts):
    """The harbour with other parts."""
    return tuple([parts.get(name, part) for name, part in zip(HARBOUR_PARTS, harbour)])


def ship_with(ship=SHIPS[0], **parts):
    """The ship with other parts."""
    return tuple([parts.get(name, part) for name, part in zip(SHIP_PARTS, ship)])


def error_of(function, *args, **more):
    """The error that a call raises, or None."""
    try:
        function(*args, **more)
    except ValueError as error:
        return error
    return None


def model_depth(harbour, hour):
    return harbour[0][hour % len(harbour[0])]


def model_word(harbour, ships, plan, name):
    depths, berths, tugs, pilots, last = harbour
    ready, length, draught, stay, needed, sea, lie = ships[name]
    came, berth, left = plan[name]
    if came < ready or left < came + stay + 1:
        return "early"
    if left > last:
        return "late"
    if berth not in range(len(berths)) or length > berths[berth]:
        return "berth"
    if not all(model_depth(harbour, hour) >= draught for hour in (came, left)):
        return "depth"
    for other_came, other_berth, other_left in plan[:name]:
        hers = set(range(came, left + 1))
        if other_berth == berth and hers & set(range(other_came, other_left + 1)):
            return "taken"
    return None


def model_wrong(harbour, ships, plan):
    """What is wrong with the list, or None."""
    for name in range(len(ships)):
        word = model_word(harbour, ships, plan, name)
        if word:
            return (word, name)
    last = harbour[4]
    movers = {hour: [] for hour in range(last + 1)}
    for name, (came, berth, left) in enumerate(plan):
        movers[came].append(name)
        movers[left].append(name)
    for hour in range(last + 1):
        if sum(ships[name][4] for name in movers[hour]) > harbour[2]:
            return ("tugs", hour)
    for hour in range(last + 1):
        if len(movers[hour]) > harbour[3]:
            return ("pilots", hour)
    return None


def model_hour_cost(ships, plan, hour):
    cost = 0
    for (ready, length, draught, stay, needed, sea, lie), (came, berth, left) in zip(ships, plan):
        is_ready, has_come_in, has_gone = hour >= ready, hour >= came, hour >= left
        if is_ready and not has_come_in:
            cost += sea
        lain = len([lying for lying in range(came + 1, left) if lying < hour])
        if has_come_in and lain >= stay and hour > came and not has_gone:
            cost += lie
    return cost


def model_cost(ships, plan):
    return sum(model_hour_cost(ships, plan, hour) for hour in range(max(left for _, _, left in plan) + 1))


def tuples_alone(harbour, ship):
    """All tuples that are plans of the ship alone."""
    hours = range(harbour[4] + 1)
    found = itertools.product(hours, range(len(harbour[1])), hours)
    return [row for row in found if model_wrong(harbour, [ship], [row]) is None]


def model_plans(harbour, ships):
    """All plans of the ships."""
    rows = [tuples_alone(harbour, ship) for ship in ships]
    return [list(plan) for plan in itertools.product(*rows) if model_wrong(harbour, ships, list(plan)) is None]


def some_harbour(chance, *, last=None):
    """A harbour that passes the checks; the source of chance is seeded by the test."""
    depths = [chance.randint(0, 40) for _ in range(chance.randint(1, 12))]
    berths = [chance.randint(1, 9) for _ in range(chance.randint(1, 2))]
    return (depths, berths, chance.randint(0, 6), chance.randint(1, 3), last or chance.randint(1, 40))


def some_ship(chance, *, latest_ready=20):
    """A ship that passes the checks."""
    sizes = (chance.randint(0, latest_ready), chance.randint(1, 9), chance.randint(0, 40), chance.randint(1, 4))
    return sizes + (chance.randint(0, 3), chance.randint(0, 9), chance.randint(0, 9))


def model_moves(harbour, ships, state, latest=None):
    """All moves that can be made in the state, as point 19 tells them: all that there are, less those that cannot."""
    hour, places = state
    if hour > harbour[4] or set(places) == {(-2, 0)}:
        return []
    found = []
    for berths in itertools.product([None, -1, *range(len(harbour[1]))], repeat=len(ships)):
        moves = tuple((ship, berth) for ship, berth in enumerate(berths) if berth is not None)
        if model_can(harbour, ships, state, moves, latest or [None] * len(ships)):
            found.append(moves)
    return sorted(found)


def model_can(harbour, ships, state, moves, latest):
    hour, places = state
    for ship, berth in moves:
        ready, length, draught, stay, needed, sea, lie = ships[ship]
        if model_depth(harbour, hour) < draught:
            return False
        if berth == -1 and (places[ship] not in [(0, 0), (1, 0)] or latest[ship] is not None and hour > latest[ship]):
            return False
        if berth != -1 and (places[ship] != (-1, 0) or hour < ready or length > harbour[1][berth]):
            return False
        if berth != -1 and berth in [lying for lying, left in places]:
            return False
    came_to = [berth for ship, berth in moves if berth != -1]
    enough = len(moves) <= harbour[3] and sum(ships[ship][4] for ship, berth in moves) <= harbour[2]
    return enough and len(came_to) == len(set(came_to))


def model_after(ships, state, moves):
    """The state behind the moves."""
    hour, places = state
    found = []
    for ship, (berth, left) in enumerate(places):
        if (ship, -1) in moves:
            found.append((-2, 0))
        elif ship in dict(moves):
            found.append((dict(moves)[ship], ships[ship][3]))
        elif berth >= 0 and left > 0:
            found.append((berth, left - 1))
        else:
            found.append((berth, left))
    return (hour + 1, tuple(found))


def model_cost_in(ships, state, moves):
    hour, places = state
    cost = 0
    for name, (ready, length, draught, stay, needed, sea, lie) in enumerate(ships):
        if name not in dict(moves):
            cost += sea if places[name] == (-1, 0) and ready <= hour else 0
            cost += lie if places[name] in [(0, 0), (1, 0)] else 0
    return cost


def model_rest(harbour, ships, state, latest=None):
    """The rest of a state, by going through all rows of moves from it on."""
    if set(state[1]) == {(-2, 0)}:
        return 0
    found = []
    for moves in model_moves(harbour, ships, state, latest):
        rest = model_rest(harbour, ships, model_after(ships, state, moves), latest)
        if rest is not None:
            found.append(model_cost_in(ships, state, moves) + rest)
    return min(found, default=None)


def some_state(chance, harbour, ships):
    """Any state of the ships, whether it can be come to or not."""
    while True:
        places = []
        for ship in ships:
            lying = (chance.randrange(len(harbour[1])), chance.randint(0, ship[3]))
            places.append(chance.choice([(-1, 0), (-2, 0), lying, (lying[0], 0)]))
        berths = [berth for berth, left in places if berth >= 0]
        if len(berths) == len(set(berths)):
            return (chance.randint(0, harbour[4] + 1), tuple(places))


def small_case(chance, *, last=None, count=None):
    """A harbour and ships that are likely to have some plans, but not many."""
    depths = [chance.randint(4, 9) for _ in range(chance.randint(1, 5))]
    berths = [chance.randint(3, 6) for _ in range(chance.randint(1, 2))]
    harbour = (depths, berths, chance.randint(1, 3), chance.randint(1, 2), last or chance.randint(4, 8))
    ships = []
    for _ in range(count or chance.randint(1, 2)):
        sizes = (chance.randint(0, 2), chance.randint(1, 5), chance.randint(3, 8), chance.randint(1, 2))
        ships.append(sizes + (chance.randint(0, 2), chance.randint(0, 9), chance.randint(0, 9)))
    return harbour, ships


def model_ships_at(ships, coming):
    return [(hour, *ship[1:]) for ship, hour in zip(ships, coming)]


def model_comings(ships, spans):
    return list(itertools.product(*[range(ship[0], ship[0] + span + 1) for ship, span in zip(ships, spans)]))


def model_late_moves(harbour, ships, state):
    """All moves of the state, as point 32 tells them: all that there are, less those that are none."""
    hour, places = state
    found = []
    for move in itertools.product([-2, -1, *range(len(harbour[1]))], repeat=len(ships)):
        movers = [ship for ship in range(len(ships)) if move[ship] != -1]
        comes = [move[ship] for ship in movers if move[ship] >= 0]
        lying = [place[1] for place in places if place[0] == 2]
        wrong = [
            len(movers) > harbour[3], sum(ships[ship][4] for ship in movers) > harbour[2],
            len(comes) > len(set(comes)), bool(set(comes) & set(lying)),
        ]
        for ship in movers:
            wrong.append(model_depth(harbour, hour) < ships[ship][2])
            if move[ship] == -2:
                wrong.append(places[ship] not in [(2, 0, 0), (2, 1, 0)])
            else:
                wrong.append(places[ship] != (1,) or harbour[1][move[ship]] < ships[ship][1])
        if not any(wrong):
            found.append(move)
    return sorted(found)


def model_late_states(harbour, ships, comings):
    """All states that can be reached in the comings, from each of them alone."""
    found = set()
    for coming in comings:
        states = {(0, tuple((1,) if hour == 0 else (0,) for hour in coming))}
        while states:
            found |= states
            behind = set()
            for state in states:
                for move in model_late_moves(harbour, ships, state):
                    places = model_late_places(ships, state, move, coming)
                    if state[0] < harbour[4] and set(places) != {(3,)}:
                        behind.add((state[0] + 1, places))
            states = behind
    return sorted(found)


def model_late_places(ships, state, move, coming):
    """The places in the hour behind the move in this coming."""
    places = []
    for ship, place in enumerate(state[1]):
        if move[ship] == -2:
            place = (3,)
        elif move[ship] >= 0:
            place = (2, move[ship], ships[ship][3])
        elif place[0] == 2 and place[2] > 0:
            place = (2, place[1], place[2] - 1)
        elif place == (0,) and coming[ship] == state[0] + 1:
            place = (1,)
        places.append(place)
    return tuple(places)


def model_late(harbour, ships, comings, leaf, together):
    """The best that can be reached in an unknown one of the comings, by going through all that can be known.

    What is known in an hour is who has come and what was done. The leaf tells what a plan in a coming is worth,
    None if it is none; together puts those of all that can become known in an hour together.
    """
    def after(hour, possible, plan):
        if all(len(row) == 3 for row in plan):
            return leaf(possible[0], plan)
        if hour > harbour[4]:
            return None
        known = {}
        for coming in possible:
            known.setdefault(tuple(min(hers, hour + 1) for hers in coming), []).append(coming)
        return together([least(hour, group, plan) for group in known.values()])

    def least(hour, possible, plan):
        ways = []
        for name, row in enumerate(plan):
            hers = [row]
            if not row and possible[0][name] <= hour:
                hers += [(hour, berth) for berth in range(len(harbour[1]))]
            if len(row) == 2 and hour > row[0] + ships[name][3]:
                hers.append(row + (hour,))
            ways.append(hers)
        found = [after(hour + 1, possible, list(rows)) for rows in itertools.product(*ways)]
        return min([worth for worth in found if worth is not None], default=None)

    return after(0, comings, [()] * len(ships))


def model_leaf(harbour, ships, coming, plan):
    """The cost of the plan in the coming, None if it is none."""
    late = model_ships_at(ships, coming)
    return model_cost(late, plan) if model_wrong(harbour, late, plan) is None else None


def model_sure(harbour, ships, spans):
    """The sure cost."""
    return model_late(
        harbour, ships, model_comings(ships, spans),
        lambda coming, plan: model_leaf(harbour, ships, coming, plan),
        lambda worths: None if None in worths else max(worths),
    )


def model_chance(ships, chances, coming):
    """The chance of the coming, a fraction."""
    found = fractions.Fraction(1)
    for ship, row, hour in zip(ships, chances, coming):
        found *= fractions.Fraction(*row[hour - ship[0]])
    return found


def model_mean(harbour, ships, chances):
    """The least mean cost, a fraction or None."""
    comings = model_comings(ships, [len(row) - 1 for row in chances])
    worth = {coming: model_chance(ships, chances, coming) for coming in comings}

    def leaf(coming, plan):
        cost = model_leaf(harbour, ships, coming, plan)
        return None if cost is None else cost * worth[coming]

    return model_late(
        harbour, ships, [coming for coming in comings if worth[coming]],
        leaf, lambda worths: None if None in worths else sum(worths),
    )


def some_chances(chance, spans):
    """Chances for these spans, some of them 0."""
    found = []
    for span in spans:
        weights = [chance.randint(0, 3) for _ in range(span)] + [chance.randint(1, 3)]
        chance.shuffle(weights)
        shares = [fractions.Fraction(weight, sum(weights)) for weight in weights]
        found.append([(share.numerator, share.denominator) for share in shares])
    return found


def share_of(number):
    """A fraction, a whole number or None as the program tells it."""
    if number is None:
        return None
    number = fractions.Fraction(number)
    return (number.numerator, number.denominator)


def lies(berth, left):
    """The place of a ship at a berth, among ships that come when they come."""
    return (2, berth, left)


def rows_with(rows, state, number):
    """The list with another number of the state, which is in it."""
    assert state in [known for known, _ in rows]
    return [(known, number if known == state else other) for known, other in rows]


def rows_without(rows, state):
    """The list without the state, which is in it."""
    assert state in [known for known, _ in rows]
    return [row for row in rows if row[0] != state]
