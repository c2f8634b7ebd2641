"""Slow models of what the document says, by all plans that there are: least costs, steps, and a console."""

import functools
import itertools

from tests.helper import NO_WHOLE_NUMBERS, model_cost, model_wrong, tuples_alone


@functools.lru_cache(maxsize=256)
def _plans_of(harbour, ships):
    """All plans; each is one of the ships but the last one, with a tuple for her (point 6)."""
    found = [[]]
    for many in range(1, len(ships) + 1):
        rows = tuples_alone(harbour, ships[many - 1])
        longer = [plan + [row] for plan in found for row in rows]
        found = [plan for plan in longer if model_wrong(harbour, ships[:many], plan) is None]
    return found


def plans_of(harbour, ships):
    """All plans; what is returned is not to be changed."""
    return _plans_of((tuple(harbour[0]), tuple(harbour[1]), *harbour[2:]), tuple(ships))


def plans_keeping(harbour, ships, latest):
    """All plans in which each ship goes out at her hour at the latest."""
    return [
        plan for plan in plans_of(harbour, ships)
        if all(most is None or left <= most for (_, _, left), most in zip(plan, latest))
    ]


def least_of_all(harbour, ships, latest=None):
    """The least cost of all plans, None if there is none."""
    plans = plans_keeping(harbour, ships, latest or [None] * len(ships))
    return min([model_cost(ships, plan) for plan in plans], default=None) if ships else 0


def number(cost):
    """A number to compare the cost by: None is greater than each cost."""
    return 10 ** 9 if cost is None else cost


def model_steps(cost_at, numbers):
    """The tuples of the numbers with a cost that is less than that of the one ahead, by asking each one."""
    found, before = [], None
    for n in numbers:
        cost = cost_at(n)
        if number(cost) < number(before):
            found.append((n, cost))
        before = cost
    return found


def parts(names):
    """All parts of the names, by their number and then in the order of lists."""
    return [list(part) for many in range(len(names) + 1) for part in itertools.combinations(names, many)]


class Wrong(Exception):
    """A deed is refused, with the name of the error and what it tells."""


def whole(value, least, most):
    return type(value) is int and least <= value <= most


def hours_of(plan, last):
    """The moves of the plan, hour by hour, as point 19 tells them."""
    found = [[] for _ in range(last + 1)]
    for ship, (came, berth, left) in enumerate(plan):
        found[came].append((ship, berth))
        found[left].append((ship, -1))
    return [tuple(sorted(moves)) for moves in found]


class Model:
    """A console of which each answer is found among all plans that go on and keep the promises."""

    def __init__(self, harbour, ships):
        self.harbour = harbour
        self.last = harbour[4]
        # What was so behind the making and behind each deed: the ships, the hour, the moves done, the promises.
        self.past = [(tuple(ships), 0, (), (None,) * len(ships))]
        self.at = 0
        self.journal = []
        if not self.ways(self.past[0]):
            raise Wrong("NoWay")

    def ways(self, so):
        """All plans that go on and keep the promises."""
        ships, hour, done, latest = so
        found = []
        for plan in plans_keeping(self.harbour, ships, latest):
            moves = hours_of(plan, self.last)
            ahead = [(at, *move) for at in range(min(hour, self.last + 1)) for move in moves[at]]
            if tuple(ahead) == done:
                found.append((model_cost(ships, plan), moves, plan))
        return found

    def cost_of(self, so):
        return min(cost for cost, _, _ in self.ways(so))

    def now(self):
        return self.past[self.at]

    def cost(self):
        return self.cost_of(self.now())

    def plan(self):
        return min(self.ways(self.now()))[2]

    def state(self):
        ships, hour, done, latest = self.now()
        places = [(-1, 0)] * len(ships)
        for at, ship, berth in done:
            lain = hour - at - 1
            places[ship] = (-2, 0) if berth == -1 else (berth, max(0, ships[ship][3] - lain))
        return (hour, tuple(places))

    def deed(self, word, *told):
        """Do a deed, and return what is told."""
        if word == "undo":
            if self.at == 0:
                raise Wrong("NothingToUndo")
            self.at -= 1
            answer = None
        elif word == "redo":
            if self.at + 1 == len(self.past):
                raise Wrong("NothingToRedo")
            self.at += 1
            answer = None
        else:
            so, answer = getattr(self, "do_" + word)(*told)
            self.past = self.past[:self.at + 1] + [so]
            self.at += 1
        self.journal.append((word, *told))
        return answer

    def do_go(self, hour):
        ships, now, done, latest = self.now()
        if not whole(hour, now, self.last + 1):
            raise Wrong("BadHour")
        moves = hours_of(self.plan(), self.last)
        told = [(at, *move) for at in range(now, min(hour, self.last + 1)) for move in moves[at]]
        return (ships, hour, done + tuple(told), latest), told

    def do_ship(self, ship):
        ships, now, done, latest = self.now()
        if len(ships) == 3:
            raise Wrong("BadSize")
        bounds = [(0, 20), (1, 9), (0, 40), (1, 4), (0, 3), (0, 9), (0, 9)]
        if not all(whole(value, *bound) for value, bound in zip(ship, bounds)):
            raise Wrong("BadShip", len(ships))
        if ship[0] < now:
            raise Wrong("BadHour")
        so = (ships + (ship,), now, done, latest + (None,))
        if not self.ways(so):
            raise Wrong("NoWay")
        return so, self.cost_of(so) - self.cost()

    def do_promise(self, ship, hour):
        ships, now, done, latest = self.now()
        if not whole(ship, 0, len(ships) - 1):
            raise Wrong("BadShip", ship)
        if not whole(hour, 0, 100):
            raise Wrong("BadHour")
        if latest[ship] is not None or ship in [gone for _, gone, berth in done if berth == -1]:
            raise Wrong("NotSo")

        def with_promises(names):
            hours = [hour if name == ship else latest[name] if name in names else None for name in range(len(ships))]
            return (ships, now, done, tuple(hours))

        promised = [name for name in range(len(ships)) if latest[name] is not None]
        if not self.ways(with_promises(promised)):
            raise Wrong("Clash", next(names for names in parts(promised) if not self.ways(with_promises(names))))
        so = with_promises(promised)
        return so, self.cost_of(so) - self.cost()

    def do_release(self, ship):
        ships, now, done, latest = self.now()
        if not whole(ship, 0, len(ships) - 1):
            raise Wrong("BadShip", ship)
        if latest[ship] is None:
            raise Wrong("NotSo")
        so = (ships, now, done, latest[:ship] + (None,) + latest[ship + 1:])
        return so, self.cost() - self.cost_of(so)

    def do_delay(self, ship, hour):
        ships, now, done, latest = self.now()
        if not whole(ship, 0, len(ships) - 1):
            raise Wrong("BadShip", ship)
        if ship in [moved for _, moved, _ in done]:
            raise Wrong("NotSo")
        if not whole(hour, ships[ship][0], 20) or hour < now:
            raise Wrong("BadHour")
        late = ships[:ship] + ((hour, *ships[ship][1:]),) + ships[ship + 1:]
        if not self.ways((late, now, done, (None,) * len(ships))):
            raise Wrong("NoWay")
        kept, lost = [None] * len(ships), []
        for name, most in enumerate(latest):
            if most is not None:
                kept[name] = most
                if not self.ways((late, now, done, tuple(kept))):
                    kept[name] = None
                    lost.append(name)
        return (late, now, done, tuple(kept)), lost


def console_case(chance):
    """A harbour and ships for which there is mostly a way, but not always one with promises."""
    depths = [chance.choice([4, 7, 8, 9]) for _ in range(chance.randint(1, 5))]
    berths = [chance.randint(4, 6) for _ in range(chance.randint(1, 2))]
    harbour = (depths, berths, chance.randint(1, 4), chance.randint(1, 3), chance.randint(6, 9))
    ships = []
    for _ in range(chance.choice([1, 2, 2, 3])):
        sizes = (chance.randint(0, 2), chance.randint(1, 5), chance.randint(3, 8), chance.randint(1, 2))
        ships.append(sizes + (chance.randint(0, 2), chance.randint(0, 9), chance.randint(0, 9)))
    return harbour, ships


def some_deed(chance, console):
    """A deed that is likely to be right, as an entry."""
    now, last, many = console.now, console.harbour()[4], len(console)
    word = chance.choice(["go", "ship", "promise", "promise", "promise", "release", "delay", "undo", "redo"])
    hour = chance.randint(now, min(last + 1, now + 2)) if word == "go" else chance.randint(now, last + 1)
    if chance.random() < 0.08:
        hour = chance.choice([*NO_WHOLE_NUMBERS, -1, 0, last + 1, last + 2, 20, 21, 100, 101, now - 1, 10 ** 20])
    ship = chance.randrange(many)
    if chance.random() < 0.08:
        ship = chance.choice([*NO_WHOLE_NUMBERS, -1, many, 3, 10 ** 20])
    if word == "ship":
        ready = min(now + chance.randint(0, 2), 20)
        sizes = (ready, chance.randint(1, 5), chance.randint(3, 8), chance.randint(1, 2), chance.randint(0, 2))
        hers = sizes + (chance.randint(0, 9), chance.randint(0, 9))
        if chance.random() < 0.15:
            at = chance.randrange(7)
            wrong = chance.choice([*NO_WHOLE_NUMBERS, -1, 41, 10 ** 20, 0])
            hers = hers[:at] + (wrong,) + hers[at + 1:]
        return ("ship", hers)
    return {
        "go": ("go", hour), "promise": ("promise", ship, hour), "release": ("release", ship),
        "delay": ("delay", ship, hour), "undo": ("undo",), "redo": ("redo",),
    }[word]
