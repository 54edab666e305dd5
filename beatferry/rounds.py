"""Bits of a hand, in the round order of q bits."""


def bits(hand):
    """The rising tuple of the bits of a hand."""
    return tuple([k for k in range(hand.bit_length()) if has_bit(hand, k)])


def has_bit(hand, k):
    """Whether k is one of the hand's bits."""
    return (hand >> k) & 1 == 1


def from_bits(some):
    """The hand that has just these bits."""
    hand = 0
    for k in some:
        # Not a sum: alike ones count once.
        hand |= 1 << k
    return hand


def arc(q, j, k):
    """How many places k stands behind j in the round order from j."""
    return (k - j) % q


def round_bits(q, hand, j):
    """The tuple of the hand's bits in the round order from j."""
    return tuple(sorted(bits(hand), key=lambda k: arc(q, j, k)))


def last_bit(q, hand, j):
    """The last of the hand's bits in the round order from j, None of hand 0."""
    if hand == 0:
        return None
    return round_bits(q, hand, j)[-1]


def next_bit(q, hand, k):
    """The first of the hand's bits in the round order behind k, None of hand 0."""
    if hand == 0:
        return None
    return round_bits(q, hand, k + 1)[0]
