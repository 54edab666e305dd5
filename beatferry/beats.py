"""What each hand hears and tells at any beat."""

from beatferry.rounds import arc, has_bit, next_bit
from beatferry.trees import across


def tree_at(q, hand, t, *, source=0):
    """The tree whose turn it is for the hand at beat t."""
    k = t % q
    apart = hand ^ source
    if has_bit(apart, k):
        return next_bit(q, apart, k)
    return k


def letter_at(q, hand, t, source):
    """The letter whose turn it is for the hand at beat t, however late; below 0 where none has set out."""
    k = t % q
    if has_bit(hand ^ source, k):
        return t - arc(q, tree_at(q, hand, t, source=source), k)
    return t - q


def due(q, m, hand, t, source):
    """The letter that comes to the hand at beat t, None where there is none."""
    letter = letter_at(q, hand, t, source)
    if letter < 0:
        return None
    return min(letter, m - 1)


def heard(q, m, hand, t, *, source=0):
    """The hand across and the letter that it tells this one at beat t, None where there is none."""
    letter = due(q, m, hand, t, source)
    if letter is None:
        return None
    return (across(hand, t % q), letter)


def told(q, m, hand, t, *, source=0):
    """The hand across and the letter that this one tells it at beat t, None where there is none."""
    other = across(hand, t % q)
    letter = due(q, m, other, t, source)
    if letter is None:
        return None
    return (other, letter)
