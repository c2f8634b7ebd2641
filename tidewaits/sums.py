"""Numbers of which each may be None, which counts as greater than each number."""


def plus(cost, number):
    """Return the sum of the cost and the number."""
    return None if number is None else cost + number


def least_of(numbers):
    """Return the least of the numbers, None if there is none."""
    return min([number for number in numbers if number is not None], default=None)


def greatest_of(numbers):
    """Return the greatest of the numbers, of which there is at least one."""
    return None if None in numbers else max(numbers)


def is_at_most(one, other):
    """Tell whether the one number is at most the other one."""
    if other is None:
        return True
    return one is not None and one <= other


def total_of(numbers):
    """Return the sum of the numbers, None if one of them is None."""
    return None if None in numbers else sum(numbers)
