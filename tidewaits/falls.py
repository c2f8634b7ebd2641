"""What is so from some number on, and costs that never rise from one number to the next.

The numbers are a list of at least one; a cost may be None as in sums.py.
"""

from tidewaits.sums import is_at_most


def first_so(numbers, is_so):
    """Return the first of the numbers for which it is so, None if there is none; for all behind it, it is so, too."""
    if not is_so(numbers[-1]):
        return None
    low = 0
    high = len(numbers) - 1
    while low < high:
        middle = (low + high) // 2
        if is_so(numbers[middle]):
            high = middle
        else:
            low = middle + 1
    return numbers[low]


def _costs_over(numbers, cost_at):
    """Return the cost of each of the numbers."""
    end = len(numbers) - 1
    costs = {0: cost_at(numbers[0]), end: cost_at(numbers[end])}
    spans = [(0, end)]
    while spans:
        low, high = spans.pop()
        middle = (low + high) // 2
        if costs[low] == costs[high]:
            # Between two equal costs there can be no other one.
            costs.update({at: costs[low] for at in range(low, high)})
        elif middle > low:
            costs[middle] = cost_at(numbers[middle])
            spans.extend([(low, middle), (middle, high)])
    return [costs[at] for at in range(len(numbers))]


def steps_over(numbers, cost_at):
    """Return the tuples of each number whose cost is less than that of the one ahead of it, and this cost."""
    found = []
    before = None
    for number, cost in zip(numbers, _costs_over(numbers, cost_at)):
        if not is_at_most(before, cost):
            found.append((number, cost))
        before = cost
    return found
