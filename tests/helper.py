"""What several tests need: drawn questions, comparing kinds too, counting steps."""

import random
import sys

# Far above what the document allows, far below any walk over all hands.
MOST_STEPS = 100000


class TooManySteps(Exception):
    pass


def alike(got, want):
    """Equal, and of the same kinds all the way down: a truth is no number, a list no tuple."""
    if type(got) is not type(want):
        return False
    if isinstance(want, (tuple, list)):
        return len(got) == len(want) and all(alike(a, b) for a, b in zip(got, want))
    if isinstance(want, dict):
        return list(got) == list(want) and all(alike(got[key], want[key]) for key in want)
    return got == want


def same(test, got, want, *about):
    if not alike(got, want):
        test.fail(f"{got!r} is not {want!r}, of {about!r}")


def drawn_hand(chance, q):
    """A hand of q bits, with few, many or about half of them."""
    hand = chance.getrandbits(q)
    shape = chance.randrange(3)
    if shape == 0:
        hand &= chance.getrandbits(q) & chance.getrandbits(q)
    elif shape == 1:
        hand |= chance.getrandbits(q) | chance.getrandbits(q)
    return hand


def drawn_questions(seed, many):
    """Drawn (q, hand, place), q up to 60; every one of the great q comes up."""
    chance = random.Random(seed)
    for at in range(many):
        q = 60 - at % 60
        yield q, drawn_hand(chance, q), chance.randrange(q)


def counted(ask):
    """What ask() tells; fails where that takes too many steps."""
    steps = 0

    def trace(frame, event, arg):
        nonlocal steps
        steps += 1
        if steps > MOST_STEPS:
            raise TooManySteps(steps)
        return trace

    before = sys.gettrace()
    sys.settrace(trace)
    try:
        return ask()
    finally:
        sys.settrace(before)
