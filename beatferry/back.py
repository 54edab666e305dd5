"""The beats turned round: what each hand gives back to the one that first told it."""

from beatferry.beats import heard
from beatferry.having import end, since
from beatferry.trees import across


def first_teller(q, m, hand, i, *, source=0):
    """From whom the hand first hears letter i, None of the source."""
    if hand == source:
        return None
    return across(hand, since(q, m, hand, i, source=source) % q)


def turned_beat(q, m, u):
    """The beat whose first hearings are given back at beat u."""
    return end(q, m) - 1 - u


def back_told(q, m, hand, u, *, source=0):
    """The hand across and the letter of which this one gives it its part at beat u, None where there is none."""
    t = turned_beat(q, m, u)
    news = heard(q, m, hand, t, source=source)
    # Of the source since tells None, so nothing that it is told was ever first heard.
    if news is None or since(q, m, hand, news[1], source=source) != t:
        return None
    return news


def back_heard(q, m, hand, u, *, source=0):
    """The hand across and the letter of which that one gives this one its part at beat u, None where there is none."""
    other = across(hand, turned_beat(q, m, u) % q)
    given = back_told(q, m, other, u, source=source)
    if given is None:
        return None
    return (other, given[1])
