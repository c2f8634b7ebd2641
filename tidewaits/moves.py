"""What ships can do together in an hour.

What a ship does is told as a way: the name of the berth to which she comes in, or one of the two numbers below.
"""

STAYS = -1
LEAVES = -2


def berths_for(harbour, ship, taken):
    """Return the names of the berths that are long enough for the ship and not taken."""
    return [berth for berth, length in enumerate(harbour[1]) if length >= ship[1] and berth not in taken]


def _is_enough(harbour, ships, choice):
    """Tell whether tugs and pilots are enough for the choice, and no two ships come in to one berth."""
    _, _, tugs, pilots, _ = harbour
    movers = [name for name, way in enumerate(choice) if way != STAYS]
    if len(movers) > pilots or sum([ships[name][4] for name in movers]) > tugs:
        return False
    berths = [way for way in choice if way >= 0]
    return all([berths.count(berth) == 1 for berth in berths])


def choices_of(harbour, ships, ways):
    """Return all choices of one of her ways for each ship that can be made together, ascending if the ways are."""
    choices = [()]
    for hers in ways:
        choices = [choice + (way,) for choice in choices for way in hers]
    return [choice for choice in choices if _is_enough(harbour, ships, choice)]
