"""Ways apart: which trees some hands spoil, and whether ways are apart."""

from beatferry.kinds import is_hand


def spoilt(q, hand, lot, *, source=0):
    """The rising tuple of the trees whose way to the hand has a hand of the lot between."""
    trees = [tree_through(q, hand, other, source) for other in lot]
    return tuple([j for j in range(q) if j in trees])


def tree_through(q, hand, other, source):
    """The tree whose way to the hand has the other between, None where there is none."""
    # No hand is between in two ways, so the one tree that can be is asked alone: not all ways walked.
    apart = hand ^ source
    reached = other ^ source
    j = only_tree(q, apart, reached)
    if j is None or not is_on_way(q, apart, reached, j):
        return None
    return j


def only_tree(q, apart, reached):
    """The one tree in which these bits can be reached on the way to the set, None of its two ends."""
    common = apart & reached
    beyond = reached ^ common
    lacking = apart ^ common
    if beyond != 0:
        # Of the bits that aren't in the set a way crosses the tree's own alone.
        return last_place(beyond)
    if reached == 0 or lacking == 0:
        return None
    # Those crossed stand side by side in the set's round order: the tree's own is the first behind a gap.
    gap = last_place(lacking)
    return (gap + first_place(turned(q, reached, gap))) % q


def is_on_way(q, apart, reached, j):
    """Whether just these bits have been crossed at some place of tree j's way to the set."""
    done = turned(q, reached, j)
    wanted = turned(q, apart, j)
    crossed_by_then = (1 << done.bit_length()) - 1
    # The tree's own bit, here the first place, is crossed whether it is wanted or not.
    return done & 1 == 1 and (done ^ wanted) & crossed_by_then <= 1


def turned(q, some, j):
    """The bits moved to their places in the round order from j."""
    places = j % q
    passed = some & ((1 << places) - 1)
    return (some >> places) | (passed << (q - places))


def first_place(some):
    """The least bit of these."""
    return (some & -some).bit_length() - 1


def last_place(some):
    """The greatest bit of these."""
    return some.bit_length() - 1


def shows_apart(q, hand, thing, *, source=0):
    """Whether it is a tuple of q unlike ways from the source to the hand that have only these two in common."""
    if not isinstance(thing, tuple) or len(thing) != q:
        return False
    if not all([goes(q, hand, hands, source) for hands in thing]):
        return False
    between = [other for hands in thing for other in hands[1:-1]]
    return len(set(thing)) == q and len(set(between)) == len(between)


def goes(q, hand, thing, source):
    """Whether it is a tuple of unlike hands from the source to the hand, each across from the one ahead."""
    if not isinstance(thing, tuple) or not all([is_hand(q, one) for one in thing]):
        return False
    if len(thing) < 2 or thing[0] != source or thing[-1] != hand:
        return False
    if not all([are_across(one, other) for one, other in zip(thing, thing[1:])]):
        return False
    return len(set(thing)) == len(thing)


def are_across(one, other):
    """Whether two hands are unlike in one bit."""
    unlike = one ^ other
    return unlike != 0 and unlike & (unlike - 1) == 0
