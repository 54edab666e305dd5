"""What a thing is, of anything handed in."""


def is_number(thing):
    """Whether it is a whole number: an int that is no truth."""
    return isinstance(thing, int) and not isinstance(thing, bool)


def is_hand(q, thing):
    """Whether it is one of the hands of q bits."""
    return is_number(thing) and 0 <= thing < 1 << q
