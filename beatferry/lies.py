"""Rows told although some hands lie."""

from beatferry.nearest import nearest
from beatferry.rounds import arc
from beatferry.rows import value, values
from beatferry.trees import crossed, delay, way


def decoded(p, k, heard):
    """The row of k numbers that is surely meant by what was heard of each tree, None where there is none."""
    pairs = tuple([(j + 1, letter) for j, letter in enumerate(heard) if letter is not None])
    if len(pairs) < k:
        return None
    row = nearest(p, k, pairs)
    if row is None or unlike_ones(p, row, pairs) > (len(pairs) - k) // 2:
        return None
    return row


def unlike_ones(p, row, pairs):
    """How many of the pairs of (x, letter) are unlike the row's values."""
    return len([x for x, letter in pairs if letter != value(p, row, x)])


def wrong(p, k, heard):
    """The rising tuple of the trees whose letter is unlike the decoded row's or didn't come, None without a row."""
    row = decoded(p, k, heard)
    if row is None:
        return None
    meant = values(p, row, len(heard))
    return tuple([j for j, letter in enumerate(heard) if letter != meant[j]])


def sure(q, f):
    """How long rows may be that each true hand tells whichever f hands are bad."""
    return max(q - 2 * f, 0)


def by_way(p, q, hand, i, number, faults, *, source=0):
    """What comes to the hand, by its way, of the letter i that the source tells as this number."""
    j = i % q
    tellers = way(q, hand, j, source=source)
    crossings = crossed(q, hand, j, source=source)
    # Only the last bit may be the tree's own once more, a whole round behind the first.
    late = [arc(q, j, bit) for bit in crossings[:-1]] + [delay(q, hand, j, source=source)]
    telling = number
    for teller, bit, more_beats in zip(tellers, crossings, late):
        fault = holding(faults, teller, bit, i + more_beats)
        if fault is not None:
            telling = spoken(p, telling, fault[3])
    return telling


def holding(faults, hand, bit, beat):
    """The fault that holds for what the hand tells by the bit at the beat, None where there is none."""
    by_then = [fault for fault in faults if fault[:2] == (hand, bit) and fault[2] <= beat]
    return max(by_then, key=lambda fault: fault[2], default=None)


def spoken(p, telling, more):
    """What is told in the stead of this, None for nothing, by a fault of so much more."""
    if more is None:
        return None
    if more == 0:
        return telling
    if telling is None:
        return more
    return (telling + more) % p
