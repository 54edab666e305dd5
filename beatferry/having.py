"""Which letters a hand has, and since when."""

from beatferry.rounds import arc, last_bit, round_bits
from beatferry.trees import delay


def end(q, m):
    """Behind how many beats all hands have all letters."""
    return m - 1 + q


def since(q, m, hand, i, *, source=0):
    """The beat at which the hand first hears letter i, None of the source."""
    if hand == source:
        return None
    if i == m - 1:
        # A letter of a tree in the set comes by the last bit of the set that is crossed in the q beats
        # from its own on. The last letter is told in the stead of those behind it, too, so it comes
        # with the first of them whose tree is in the set: by the same bit, whatever its own tree.
        return crossed_by(q, hand ^ source, i + q - 1)
    return i + delay(q, hand, i % q, source=source)


def crossed_by(q, some, t):
    """The last beat up to t at which one of these bits is crossed."""
    k = t % q
    return t - arc(q, last_bit(q, some, (k + 1) % q), k)


def crossed_from(q, some, t):
    """The first beat from t on at which one of these bits is crossed."""
    k = t % q
    return t + arc(q, k, round_bits(q, some, k)[0])


def holds(q, m, hand, t, i, *, source=0):
    """Whether the hand has letter i ahead of beat t."""
    if hand == source:
        return True
    return since(q, m, hand, i, source=source) < t


def had_by_all(q, m, t):
    """How many letters from the first on come to every hand ahead of beat t, the last one left out."""
    return max(0, min(t - q, m - 1))


def early(q, m, hand, t, source):
    """The one letter that a hand has ahead of beat t beside those that all have, None where there is none."""
    # One that set out fewer than q beats ago is there only where its tree is in the set and no bit of
    # the set is crossed from t on until its own is, q beats behind its setting out.
    letter = crossed_from(q, hand ^ source, t) - q
    if letter < 0:
        return None
    return min(letter, m - 1)


def many(q, m, hand, t, *, source=0):
    """How many letters the hand has ahead of beat t."""
    if hand == source:
        return m
    if early(q, m, hand, t, source) is None:
        return had_by_all(q, m, t)
    return had_by_all(q, m, t) + 1


def first_lack(q, m, hand, t, *, source=0):
    """The least letter that the hand hasn't ahead of beat t, None where it has all."""
    if hand == source:
        return None
    lack = had_by_all(q, m, t)
    if early(q, m, hand, t, source) == lack:
        lack += 1
    return None if lack == m else lack


def last_beat(q, m, hand, *, source=0):
    """The beat at which the hand hears the last letter that it lacked, None of the source."""
    if hand == source:
        return None
    if m == 1:
        return since(q, m, hand, 0, source=source)
    # The bit crossed then is that of the last letter's forerunner: the last letter comes by it where
    # it is in the set, the forerunner itself where it isn't.
    return end(q, m) - 1
