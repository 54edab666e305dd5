"""Rows told by rounds while some hands are silent."""

from beatferry.apart import spoilt
from beatferry.kinds import is_hand, is_lot_beside, is_row
from beatferry.rows import value, values, vanishing


def letters(p, q, rows):
    """The tuple of all letters by which these rows are told, q of each."""
    return tuple([letter for row in rows for letter in values(p, row, q)])


def came(q, hand, lot, *, source=0):
    """The rising tuple of the trees by which a letter comes to the hand while the lot is silent."""
    lost = spoilt(q, hand, lot, source=source)
    return tuple([j for j in range(q) if j not in lost])


def tellable(q, f):
    """How long rows may be that are told to every other hand whichever f hands are silent."""
    return max(q - f, 0)


def parting(p, q, f, k, *, source=0):
    """A hand, silent ones, and two rows of k numbers of which it hears the same; None where there are none."""
    if k <= tellable(q, f):
        return None
    # Two bits off the source: so each tree has somebody between, the one that the source tells.
    hand = source ^ 3
    lot = tuple(sorted([source ^ (1 << j) for j in range(min(f, q))]))
    row = (0,) * k
    other = vanishing(p, tuple([j + 1 for j in came(q, hand, lot, source=source)]))
    return (hand, lot, row, other + (0,) * (k - len(other)))


def shows_parting(p, q, f, k, thing, *, source=0):
    """Whether it is a hand, at most f silent ones, and two unlike rows of k numbers of which it hears the same."""
    if not isinstance(thing, tuple) or len(thing) != 4:
        return False
    hand, lot, row, other = thing
    if not is_hand(q, hand) or hand == source:
        return False
    if not is_lot_beside(q, f, (source, hand), lot):
        return False
    if not is_row(p, k, row) or not is_row(p, k, other) or row == other:
        return False
    # The same values just where the difference has 0.
    unlike = [one - two for one, two in zip(row, other)]
    return all([value(p, unlike, j + 1) == 0 for j in came(q, hand, lot, source=source)])
