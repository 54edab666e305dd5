"""What a thing is, of anything handed in."""


def is_number(thing):
    """Whether it is a whole number: an int that is no truth."""
    return isinstance(thing, int) and not isinstance(thing, bool)


def is_from_to(thing, least, most):
    """Whether it is a whole number from the least to the most."""
    return is_number(thing) and least <= thing <= most


def is_hand(q, thing):
    """Whether it is one of the hands of q bits."""
    return is_number(thing) and 0 <= thing < 1 << q


def is_lot(q, thing):
    """Whether it is a rising tuple of hands."""
    if not isinstance(thing, tuple) or not all([is_hand(q, one) for one in thing]):
        return False
    return all([one < other for one, other in zip(thing, thing[1:])])


def is_lot_beside(q, most, ends, thing):
    """Whether it is a lot of at most so many hands, without these ends."""
    return is_lot(q, thing) and len(thing) <= most and not any([one in thing for one in ends])


def is_field_number(p, thing):
    """Whether it is a number of the field of p."""
    return is_number(thing) and 0 <= thing < p


def is_row(p, k, thing):
    """Whether it is a row of k numbers of the field of p."""
    if not isinstance(thing, tuple) or len(thing) != k:
        return False
    return all([is_field_number(p, one) for one in thing])
