"""What several tests need: drawn questions, comparing kinds too, counting steps."""

import random
import sys

# Far above what the document allows, far below any walk over all hands.
MOST_STEPS = 100000


class TooManySteps(Exception):
    pass


def alike(got, want):
    """Equal, and of the same kinds all the way down: a truth is no number, a list no tuple."""
    if type(got) is not type(want):
        return False
    if isinstance(want, (tuple, list)):
        return len(got) == len(want) and all(alike(a, b) for a, b in zip(got, want))
    if isinstance(want, dict):
        return list(got) == list(want) and all(alike(got[key], want[key]) for key in want)
    return got == want


def same(test, got, want, *about):
    if not alike(got, want):
        test.fail(f"{got!r} is not {want!r}, of {about!r}")


def drawn_hand(chance, q):
    """A hand of q bits, with few, many or about half of them."""
    hand = chance.getrandbits(q)
    shape = chance.randrange(3)
    if shape == 0:
        hand &= chance.getrandbits(q) & chance.getrandbits(q)
    elif shape == 1:
        hand |= chance.getrandbits(q) | chance.getrandbits(q)
    return hand


def drawn_questions(seed, many):
    """Drawn (q, hand, place), q up to 60; every one of the great q comes up."""
    chance = random.Random(seed)
    for at in range(many):
        q = 60 - at % 60
        yield q, drawn_hand(chance, q), chance.randrange(q)


def drawn(seed, many):
    """Drawn (q, source, hand), q up to 60, the source itself and hands near it among them."""
    chance = random.Random(seed)
    for at in range(many):
        q = 60 - at % 60
        source = drawn_hand(chance, q)
        near = (0, 2 ** chance.randrange(q), 2 ** q - 1, drawn_hand(chance, q), drawn_hand(chance, q))
        yield q, source, source ^ near[at // 60 % 5]


def small(most):
    """Every (q, source, hand) of up to so many bits."""
    for q in range(1, most + 1):
        for source in range(2 ** q):
            for hand in range(2 ** q):
                yield q, source, hand


def written_crossed(q, hand, j, source):
    """The bits as point 5 words them, with sets of bits in the stead of numbers."""
    apart = {k for k in range(q) if hand // 2 ** k % 2 != source // 2 ** k % 2}
    order = list(range(j, q)) + list(range(j))
    middle = [k for k in order if k in apart and k != j]
    return (j, *middle) if j in apart else (j, *middle, j)


def written_way(q, hand, j, source):
    hands = [source]
    for k in written_crossed(q, hand, j, source):
        last = hands[-1]
        hands.append(last - 2 ** k if last // 2 ** k % 2 else last + 2 ** k)
    return tuple(hands)


def comes(q, hand, i, source):
    """The beat at which the letter put on its way at beat i comes to the hand: walked, a beat a bit."""
    t = i - 1
    for k in written_crossed(q, hand, i % q, source):
        t += 1
        while t % q != k:
            t += 1
    return t


def written_since(q, m, hand, i, source):
    """Walked along the ways: the last letter also in the stead of each that is put on its way behind it."""
    behind = q + 1 if i == m - 1 else 1
    return min(comes(q, hand, one, source) for one in range(i, i + behind))


def walked(q, m, source, beats):
    """By (hand, beat) the (teller, letter) that comes; each beat's letter goes along all ways of its tree."""
    came = {}
    for i in range(beats):
        for hand in range(2 ** q):
            t = comes(q, hand, i, source)
            if (hand, t) in came:
                raise ValueError("two letters at one beat")
            came[hand, t] = (written_way(q, hand, i % q, source)[-2], min(i, m - 1))
    return came


def first_hearings(q, m, source):
    """By (hand, letter) the beat and the teller of its first hearing: by a walk of all letters, beat by beat."""
    came = walked(q, m, source, m + 3 * q)
    first = {}
    for hand, t in sorted(came, key=lambda key: key[1]):
        teller, letter = came[hand, t]
        if hand != source:
            first.setdefault((hand, letter), (t, teller))
    return first


def written_value(p, row, x):
    """The sum as point 10 words it."""
    return sum(number * x ** at for at, number in enumerate(row)) % p


def nested(make, depth):
    """A thing so many deep; make(inner) puts one more around it."""
    thing = make(0)
    for _ in range(depth - 1):
        thing = make(thing)
    return thing


def oddities():
    """Things of any kind, for what is asked of anything."""
    return [
        None, True, False, 0, 1, -1, 7, 10 ** 30, -10 ** 30, "", "0", "(0, 1)", (), [], {}, {0: 1}, {"a": (1,)},
        (0,), (None,), ((),), ((), ()), [()], ([],), ({},), ("",), (True, False), (0, (1, (2, [3]))),
        (0, (), (0,), (0,)), ((0, 1),), ((0, 1), (0, 1)), [[0, 1]], (((0, 1),),),
        nested(lambda inner: (inner,), 30), nested(lambda inner: [inner], 30), nested(lambda inner: {0: inner}, 30),
        nested(lambda inner: (inner, inner), 12), nested(lambda inner: ((0, 1), inner), 30),
        nested(lambda inner: {"a": [inner]}, 15),
    ]


def mutants(thing, others):
    """The thing with one thing otherwise, at any place of its tuples; what stands for it is of others, too."""
    if isinstance(thing, tuple):
        yield list(thing)
        for at, inner in enumerate(thing):
            ahead, behind = thing[:at], thing[at + 1:]
            yield ahead + behind
            yield ahead + (inner, inner) + behind
            yield ahead + (inner,) + thing[:1] + behind
            yield ahead + behind[:1] + (inner,) + behind[1:]
            for other in mutants(inner, others):
                yield ahead + (other,) + behind
        yield thing + (0,)
        yield {0: thing}
    if isinstance(thing, int):
        yield from (thing + 1, thing - 1, -thing, ~thing, thing ^ 1, thing ^ 2, str(thing), [thing], (thing,))
        yield bool(thing)
    yield from others


def counted(ask, most=MOST_STEPS):
    """What ask() tells; fails where that takes more steps."""
    steps = 0

    def trace(frame, event, arg):
        nonlocal steps
        steps += 1
        if steps > most:
            raise TooManySteps(steps)
        return trace

    before = sys.gettrace()
    sys.settrace(trace)
    try:
        return ask()
    finally:
        sys.settrace(before)


def check_asking(test, ask, named, source=None):
    """By places, by names in any order, or both, the same is told; the source by its name alone, 0 left out."""
    places = tuple(named.values())
    turned = dict(reversed(named.items()))
    lots = [{}] if source is None else [{}, {"source": 0}, {"source": source}]
    for more in lots:
        before = repr(named)
        want = ask(*places, **more)
        same(test, ask(**named, **more), want, ask.__name__, named, more)
        same(test, ask(**more, **turned), want, ask.__name__, named, more)
        last = list(named)[-1]
        same(test, ask(*places[:-1], **{last: places[-1]}, **more), want, ask.__name__, named, more)
        test.assertEqual(repr(named), before)
    if source is not None:
        same(test, ask(*places), ask(*places, source=0), ask.__name__, named)
        with test.assertRaises(TypeError):
            ask(*places, source)


def check_refused(test, kind, ask, *values):
    """ask() is refused with just this class, and keeps just this value, if any, the very one handed in."""
    with test.assertRaises(kind) as caught:
        ask()
    test.assertIs(type(caught.exception), kind)
    kept = list(vars(caught.exception).values())
    test.assertEqual(len(kept), len(values), kind)
    for one, value in zip(kept, values):
        same(test, one, value, kind)
        if not isinstance(value, int):
            test.assertIs(one, value)


class WalkedHouse:
    """A house as points 18 and 19 word it: who tells whom what is walked along all ways ahead of time."""

    def __init__(self, q, p, k):
        self.q, self.p, self.k = q, p, k
        self.silent, self.lies = set(), {}
        self.source = None
        self.rows, self.letters, self.heard, self.due, self.bad, self.beat = (), (), {}, {}, set(), 0

    def tell(self, source, rows):
        self.source, self.rows = source, rows
        self.letters = tuple(written_value(self.p, row, x) for row in rows for x in range(1, self.q + 1))
        self.heard = {hand: [None] * len(self.letters) for hand in range(2 ** self.q)}
        self.heard[source] = list(self.letters)
        self.bad, self.beat = set(), 0
        self.due = {
            (hand, i): comes(self.q, hand, i, source)
            for hand in range(2 ** self.q) if hand != source for i in range(len(self.letters))}

    def under_way(self):
        return self.source is not None and self.beat < len(self.letters) + self.q

    def untrue(self):
        return self.silent | {hand for hand, _ in self.lies}

    def mend(self, hand):
        self.silent.discard(hand)
        self.lies = {place: more for place, more in self.lies.items() if place[0] != hand}

    def lie(self, hand, bit, more):
        self.lies.pop((hand, bit), None)
        if more:
            self.lies[hand, bit] = more

    def step(self):
        news = {}
        for (hand, i), t in self.due.items():
            if t == self.beat:
                teller = written_way(self.q, hand, i % self.q, self.source)[-2]
                number = self.heard[teller][i]
                more = self.lies.get((teller, t % self.q), 0)
                if teller in self.silent:
                    number = None
                elif more:
                    number = more if number is None else (number + more) % self.p
                news[hand, i] = number
        for (hand, i), number in news.items():
            self.heard[hand][i] = number
        self.bad |= self.untrue()
        self.beat += 1

    def rounds(self, hand):
        """For each row its q letters as heard, None where one of them is still to come."""
        told = []
        for first in range(0, len(self.letters), self.q):
            places = range(first, first + self.q)
            done = all(self.due[hand, i] < self.beat for i in places)
            told.append(tuple(self.heard[hand][i] for i in places) if done else None)
        return told
