"""Who may have been bad, by the trees that hands accuse."""

from beatferry.trees import way


def explains(q, books, lot, *, source=0):
    """Whether each tree accused by a hand that isn't of the lot is spoilt by the lot."""
    return source not in lot and meets_all(lot, charges(q, books, source))


def charges(q, books, source):
    """For each tree that a hand accuses the tuple of those of whom one is bad: itself, or one between."""
    return [(hand,) + way(q, hand, j, source=source)[1:-1] for hand, trees in books for j in trees]


def meets_all(lot, accused):
    """Whether each of the charges has a hand of the lot."""
    bad = {hand: True for hand in lot}
    return all([any([hand in bad for hand in charge]) for charge in accused])


def least_lots(q, books, most, *, source=0):
    """The rising tuple of the lots of at most so many hands that explain, and don't without one of theirs."""
    accused = charges(q, books, source)
    lots = [tuple(sorted(lot)) for lot in meeting(accused, most)]
    return tuple(sorted(set([lot for lot in lots if needs_all(lot, accused)])))


def meeting(accused, most):
    """Tuples of at most so many hands that meet all charges; all that need each of theirs are among them."""
    if len(accused) == 0:
        return [()]
    if most <= 0:
        return []
    found = []
    # One of the first charge's hands must be there, so no other need be tried: few lots in the stead of all.
    for hand in accused[0]:
        left = [charge for charge in accused if hand not in charge]
        found += [(hand,) + others for others in meeting(left, most - 1)]
    return found


def needs_all(lot, accused):
    """Whether the charges aren't all met without any one of the lot."""
    return not any([meets_all(without(lot, hand), accused) for hand in lot])


def without(lot, hand):
    """The lot without this hand."""
    return tuple([other for other in lot if other != hand])


def surely_bad(q, books, most, *, source=0):
    """The lot of the hands that are in each lot of at most so many that explains, None where none does."""
    # Each lot that explains has a least one in it, so the least ones have no more in common than all have.
    lots = least_lots(q, books, most, source=source)
    if len(lots) == 0:
        return None
    return tuple([hand for hand in lots[0] if all([hand in lot for lot in lots])])
