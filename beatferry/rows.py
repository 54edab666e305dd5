"""Rows of numbers of a field, their values, and rows through values."""

from beatferry.errors import TooFew
from beatferry.fields import inverse


def value(p, row, x):
    """The row's value at x."""
    total = 0
    for number in reversed(row):
        total = (total * x + number) % p
    return total


def values(p, row, many):
    """The tuple of the row's values at 1, 2, .., many."""
    return tuple([value(p, row, x) for x in range(1, many + 1)])


def with_root(p, row, x):
    """The row whose values are those of this row, each times what its place is beyond x."""
    return tuple([(higher - x * number) % p for higher, number in zip((0,) + row, row + (0,))])


def vanishing(p, some):
    """The row of one number more than these, the last one 1, whose values at these are 0."""
    row = (1,)
    for x in some:
        row = with_root(p, row, x)
    return row


def through(p, pairs):
    """The row of as many numbers as there are pairs of (x, value) that has all these values."""
    row = ()
    zeros = (1,)
    for x, wanted in pairs:
        # What is added is 0 at all x ahead, so the values there stay.
        times = (wanted - value(p, row, x)) * inverse(p, value(p, zeros, x))
        row = tuple([(number + times * more) % p for number, more in zip(row + (0,), zeros)])
        zeros = with_root(p, zeros, x)
    return row


def row_through(p, k, pairs):
    """The row of k numbers that has all the values of these pairs, None where none has."""
    if len(pairs) < k:
        raise TooFew(len(pairs))
    row = through(p, pairs[:k])
    if all([value(p, row, x) == wanted for x, wanted in pairs[k:]]):
        return row
    return None
