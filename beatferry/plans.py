"""The ferry's plan, and any plan judged."""

from beatferry.beats import told
from beatferry.having import end


def plan(q, m, *, source=0):
    """The ferry's plan: for each beat up to the end what each hand tells."""
    return tuple([tellings(q, m, t, source) for t in range(end(q, m))])


def tellings(q, m, t, source):
    """The tuple of (teller, hearer, letter) at beat t, by rising tellers."""
    some = []
    for teller in range(1 << q):
        answer = told(q, m, teller, t, source=source)
        if answer is not None:
            hearer, letter = answer
            some.append((teller, hearer, letter))
    return tuple(some)


def judged(hands, m, plan, *, source=0):
    """Whether a plan is wrong, lacks something, or is done, and where."""
    # By (hand, letter) the beat at which it is first heard; the source has all ahead of beat 0.
    first = {(source, letter): -1 for letter in range(m)}
    for at, beat in enumerate(plan):
        teller = wrong_teller(beat, at, first)
        if teller is not None:
            return ("wrong", at, teller)
        for telling in beat:
            first.setdefault(telling[1:], at)
    return outcome(hands, m, first)


def wrong_teller(beat, at, first):
    """The least teller of this beat whose telling can't be, None where all can."""
    hearing = {}
    for teller, hearer, letter in beat:
        if teller == hearer or hearer in hearing:
            return teller
        if first.get((teller, letter), at) >= at:
            return teller
        hearing[hearer] = True
    return None


def outcome(hands, m, first):
    """What a plan in which nothing is wrong comes to, by the beats at which all is first heard."""
    last = -1
    for hand in range(hands):
        for letter in range(m):
            if (hand, letter) not in first:
                return ("lacks", hand, letter)
            last = max(last, first[(hand, letter)])
    return ("done", last + 1)


def bound(hands, m):
    """The fewest beats in which m letters can come to so many hands."""
    # So many doublings of 1 come to hands just where one fewer than hands has so many bits.
    return m - 1 + (hands - 1).bit_length()
