"""States that can be come to, hour by hour.

A step is a tuple of a move, its cost, and the list of the states that can stand behind it; more may follow.
"""


def _level_behind(level, steps_of):
    found = {}
    for steps in level.values():
        for step in steps:
            for state in step[2]:
                if state not in found:
                    found[state] = steps_of(state)
    return found


def levels_from(states, steps_of):
    """Return a dict for each hour, from that of these states on, with the steps of each state of this hour."""
    levels = [{state: steps_of(state) for state in states}]
    while levels[-1]:
        levels.append(_level_behind(levels[-1], steps_of))
    return levels
