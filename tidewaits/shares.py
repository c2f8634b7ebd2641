"""Numbers that are told as tuples (n, d) in lowest terms, d at least 1; each may be None as in sums.py."""

from math import gcd


def lowest(n, d):
    """Return the n-th part of d in lowest terms."""
    by = gcd(n, d)
    return (n // by, d // by)


def total_of(shares):
    """Return the sum of the shares, None if one of them is None."""
    total = (0, 1)
    for share in shares:
        if share is None:
            return None
        total = lowest(total[0] * share[1] + share[0] * total[1], total[1] * share[1])
    return total


def times(share, by):
    """Return the product of the share and another one, which is not None."""
    return None if share is None else lowest(share[0] * by[0], share[1] * by[1])


def is_share_at_most(one, other):
    """Tell whether the one share is at most the other one."""
    if other is None:
        return True
    return one is not None and one[0] * other[1] <= other[0] * one[1]


def least_share(shares):
    """Return the least of the shares, None if there is none."""
    least = None
    for share in shares:
        if not is_share_at_most(least, share):
            least = share
    return least
