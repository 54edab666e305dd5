"""The q trees by which letters come from a source to every hand."""

from beatferry.rounds import arc, has_bit, last_bit, round_bits


def across(hand, k):
    """The hand across by bit k."""
    return hand ^ (1 << k)


def crossed(q, hand, j, *, source=0):
    """The tuple of the bits crossed from the source to the hand in tree j."""
    apart = hand ^ source
    if has_bit(apart, j):
        # j itself stands first in the round order from j.
        return round_bits(q, apart, j)
    return (j,) + round_bits(q, apart, j) + (j,)


def way(q, hand, j, *, source=0):
    """The tuple of the hands by which a letter of tree j goes, source first, hand last."""
    hands = [source]
    for k in crossed(q, hand, j, source=source):
        hands.append(across(hands[-1], k))
    return tuple(hands)


def delay(q, hand, j, *, source=0):
    """How many beats behind its start a letter of tree j comes to the hand."""
    apart = hand ^ source
    if has_bit(apart, j):
        return arc(q, j, last_bit(q, apart, j))
    return q


def teller(q, hand, j, *, source=0):
    """The hand that tells this one the letters of tree j."""
    return across(hand, crossed(q, hand, j, source=source)[-1])


def hearers(q, hand, j, *, source=0):
    """The rising tuple of the hands that this one tells the letters of tree j."""
    apart = hand ^ source
    if apart == 0:
        return (across(hand, j),)
    if not has_bit(apart, j):
        # Who lacks j heard by crossing it last, and so nobody crosses on from it.
        return ()
    # A way goes on by bits behind all that it has crossed, or ends by j once more.
    past = delay(q, hand, j, source=source)
    onward = [across(hand, (j + place) % q) for place in range(past + 1, q)]
    return tuple(sorted([across(hand, j)] + onward))
