"""The row that most of some values are of, found by dividing rows."""

from beatferry.fields import inverse
from beatferry.rows import through, vanishing


def nearest(p, k, pairs):
    """The row of k numbers of which at most half of the pairs beyond k are unlike.

    Where there is none it is any row, or None: who asks has to count.
    """
    # Times the row that vanishes where pairs are unlike, the row through all pairs and the row looked
    # for have the same values at all x. Dividing on, as for the greatest common divisor, comes to
    # this product as soon as it is short enough, and keeps what the row through all was multiplied by.
    older = vanishing(p, tuple([x for x, wanted in pairs]))
    newer = trimmed(through(p, pairs))
    older_times = ()
    newer_times = (1,)
    while 2 * (len(newer) - 1) >= len(pairs) + k:
        quotient, rest = divided(p, older, newer)
        times = less(p, older_times, product(p, quotient, newer_times))
        older, newer = newer, rest
        older_times, newer_times = newer_times, times
    row = divided(p, newer, newer_times)[0]
    if len(row) > k:
        return None
    return row + (0,) * (k - len(row))


def trimmed(row):
    """The row without what is 0 at its end."""
    long = len(row)
    while long > 0 and row[long - 1] == 0:
        long -= 1
    return tuple(row[:long])


def divided(p, row, by):
    """The quotient and the rest of two rows, neither with a 0 at its end."""
    steps = max(0, len(row) - len(by) + 1)
    last = len(by) - 1
    scale = inverse(p, by[last])
    quotient = [0] * steps
    rest = list(row)
    for at in reversed(range(steps)):
        times = rest[at + last] * scale % p
        quotient[at] = times
        for place, number in enumerate(by):
            rest[at + place] = (rest[at + place] - times * number) % p
    return (trimmed(quotient), trimmed(rest))


def product(p, row, other):
    """The row whose values are the products of the values of these two."""
    numbers = [0] * (len(row) + len(other) - 1)
    for at, one in enumerate(row):
        for place, two in enumerate(other):
            numbers[at + place] = (numbers[at + place] + one * two) % p
    return tuple(numbers)


def less(p, row, other):
    """The row whose values are those of the first less those of the other, without what is 0 at its end."""
    long = max(len(row), len(other))
    ones = row + (0,) * (long - len(row))
    twos = other + (0,) * (long - len(other))
    return trimmed([(one - two) % p for one, two in zip(ones, twos)])
