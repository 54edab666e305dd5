"""Two worlds that a true hand can't tell apart, where rows are too long for so many bad hands."""

from beatferry.apart import spoilt
from beatferry.kinds import is_hand, is_lot_beside, is_row
from beatferry.lies import sure
from beatferry.rows import values, vanishing


def worlds(p, q, f, k, *, source=0):
    """A hand, two lots, two rows of k numbers and what is heard in both worlds; None where there are none."""
    if k <= sure(q, f):
        return None
    # Two bits off the source: so each tree has somebody between, the one that the source tells.
    hand = source ^ 3
    lot = first_told(source, 0, min(f, q))
    other_lot = first_told(source, f, min(2 * f, q))
    row = (0,) * k
    # Where nobody lies in either world both rows must have the same value.
    unlike = vanishing(p, tuple(range(2 * f + 1, q + 1)))
    other_row = unlike + (0,) * (k - len(unlike))
    # In the one world the lot tells the other row's letters, in the other the other lot the row's.
    heard = values(p, other_row, min(f, q)) + values(p, row, q)[f:]
    return (hand, lot, other_lot, row, other_row, heard)


def first_told(source, start, stop):
    """The lot of the hands that the source itself tells in the trees from start up to the one ahead of stop."""
    return tuple(sorted([source ^ (1 << j) for j in range(start, stop)]))


def shows_worlds(p, q, f, k, thing, *, source=0):
    """Whether it is a hand, two lots of at most f, two unlike rows of k numbers, and what fits both worlds."""
    if not isinstance(thing, tuple) or len(thing) != 6:
        return False
    hand, lot, other_lot, row, other_row, heard = thing
    if not is_hand(q, hand) or hand == source:
        return False
    if not all([is_lot_beside(q, f, (source, hand), some) for some in (lot, other_lot)]):
        return False
    if not is_row(p, k, row) or not is_row(p, k, other_row) or row == other_row or not is_row(p, q, heard):
        return False
    worlds_told = ((lot, row), (other_lot, other_row))
    return all([fits(p, q, heard, told, spoilt(q, hand, bad, source=source)) for bad, told in worlds_told])


def fits(p, q, heard, row, trees):
    """Whether the letters heard are the row's in all but these trees."""
    return all([letter == meant or j in trees for j, (letter, meant) in enumerate(zip(heard, values(p, row, q)))])
