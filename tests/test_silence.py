import itertools
import random
import unittest

from beatferry.rows import row_through
from beatferry.silence import came, letters, parting, shows_parting, tellable
from helper import (
    check_asking, comes, counted, drawn, drawn_hand, mutants, oddities, same, small, written_value, written_way)

PRIMES_ABOVE = {1: 2, 2: 3, 3: 5, 4: 5, 5: 7, 6: 7}
GREAT = 999999937


def written_came(q, hand, lot, source):
    return tuple(j for j in range(q) if not set(written_way(q, hand, j, source)[1:-1]) & set(lot))


def written_shows_parting(p, q, f, k, thing, source):
    """As point 12 words it, one thing behind the other."""
    if type(thing) is not tuple or len(thing) != 4:
        return False
    hand, lot, row, other = thing
    if type(hand) is not int or not 0 <= hand <= 2 ** q - 1 or hand == source:
        return False
    if type(lot) is not tuple or any(type(one) is not int or not 0 <= one <= 2 ** q - 1 for one in lot):
        return False
    if list(lot) != sorted(set(lot)) or len(lot) > f or source in lot or hand in lot:
        return False
    for some in (row, other):
        if type(some) is not tuple or len(some) != k:
            return False
        if any(type(number) is not int or not 0 <= number <= p - 1 for number in some):
            return False
    if row == other:
        return False
    trees = written_came(q, hand, lot, source)
    return all(written_value(p, row, j + 1) == written_value(p, other, j + 1) for j in trees)


def told_on(q, lot, source):
    """By (hand, tree) whether a letter comes, beat by beat: each true hand tells on what it heard."""
    has = {}
    for t in range(3 * q):
        heard = {}
        for hand in range(2 ** q):
            for i in range(q):
                if comes(q, hand, i, source) == t:
                    other = hand ^ 2 ** (t % q)
                    if other not in lot and (other == source or has[other, i]):
                        heard[hand, i] = True
                    else:
                        heard[hand, i] = False
        for key in heard:
            # What the source is told once more is no news, but it comes.
            has[key] = heard[key]
    return has


def lots(q, source, sizes):
    hands = [hand for hand in range(2 ** q) if hand != source]
    for size in sizes:
        yield from itertools.combinations(hands, size)


class Letters(unittest.TestCase):
    def test_by_hand(self):
        same(self, letters(7, 4, ()), ())
        same(self, letters(7, 4, ((1, 2, 3),)), (6, 3, 6, 1))
        same(self, letters(7, 3, ((5,), (0, 1))), (5, 5, 5, 1, 2, 3))
        same(self, letters(2, 1, ((1, 1), (0, 1), (0,))), (0, 1, 0))

    def test_as_written(self):
        chance = random.Random(81)
        for q in range(1, 61):
            p = chance.choice((61, 7919, GREAT))
            many = chance.randrange(6)
            rows = tuple(tuple(chance.randrange(p) for _ in range(chance.randrange(1, 61))) for _ in range(many))
            got = letters(p, q, rows)
            same(self, (type(got), len(got)), (tuple, many * q))
            for a, row in enumerate(rows):
                for j in range(q):
                    same(self, got[a * q + j], written_value(p, row, j + 1), p, q, rows, a, j)


class Came(unittest.TestCase):
    def check(self, q, hand, lot, source):
        got = came(q, hand, lot, source=source)
        same(self, got, written_came(q, hand, lot, source), q, hand, lot, source)

    def test_by_hand(self):
        same(self, came(4, 13, ()), (0, 1, 2, 3))
        same(self, came(4, 13, (5, 6)), (2, 3))
        same(self, came(4, 13, (1, 2, 4, 8)), ())
        # The way straight from the source has nobody between.
        same(self, came(3, 1, (2, 3, 4, 5, 6, 7)), (0,))
        # Its own silence takes nothing from it.
        same(self, came(4, 13, (5, 13)), (1, 2, 3))
        # To the source, there and back.
        same(self, came(4, 0, (1, 3, 8)), (1, 2))
        same(self, came(3, 5, (4,), source=5), (1, 2))
        same(self, [came(1, 1, ()), came(1, 1, (1,)), came(1, 0, (1,)), came(1, 0, ())], [(0,), (0,), (), (0,)])

    def test_every_small(self):
        for q, source, hand in small(3):
            for lot in lots(q, source, range(2 ** q)):
                self.check(q, hand, lot, source)

    def test_four_bits(self):
        for q, source, hand in small(4):
            if q == 4:
                for lot in lots(q, source, (0, 1, 2)):
                    self.check(q, hand, lot, source)

    def test_told_on_beat_by_beat(self):
        chance = random.Random(82)
        for q in range(1, 5):
            for source in {0, 2 ** q - 1, 2 ** q // 3}:
                some = list(lots(q, source, range(min(2 ** q, 5))))
                for lot in chance.sample(some, min(len(some), 40)):
                    has = told_on(q, lot, source)
                    for hand in range(2 ** q):
                        want = tuple(j for j in range(q) if has[hand, j])
                        same(self, came(q, hand, lot, source=source), want, q, hand, lot, source)

    def test_drawn(self):
        chance = random.Random(83)
        for q, source, hand in drawn(83, 900):
            near = [one for j in range(q) for one in written_way(q, hand, j, source)]
            some = {chance.choice(near) for _ in range(chance.randrange(8))} | {drawn_hand(chance, q)}
            self.check(q, hand, tuple(sorted(some - {source})), source)

    def test_at_least_so_many_come(self):
        for q in range(1, 4):
            for source in range(2 ** q):
                for lot in lots(q, source, range(q + 1)):
                    for hand in range(2 ** q):
                        if hand != source and hand not in lot:
                            many = len(came(q, hand, lot, source=source))
                            self.assertGreaterEqual(many, q - len(lot), (q, hand, lot, source))
        chance = random.Random(84)
        for q, source, hand in drawn(84, 300):
            if hand != source:
                near = [one for j in range(q) for one in written_way(q, hand, j, source)[1:-1]]
                lot = tuple(sorted({chance.choice(near) for _ in range(chance.randrange(q))})) if near else ()
                self.assertGreaterEqual(len(came(q, hand, lot, source=source)), q - len(lot), (q, hand, lot, source))

    def test_a_row_is_told_whoever_is_silent(self):
        chance = random.Random(85)
        for q in range(2, 5):
            p, source = PRIMES_ABOVE[q], chance.randrange(2 ** q)
            for lot in lots(q, source, range(q)):
                k = tellable(q, len(lot))
                row = tuple(chance.randrange(p) for _ in range(k))
                told = letters(p, q, (row,))
                for hand in range(2 ** q):
                    if hand not in lot:
                        trees = came(q, hand, lot, source=source)
                        if hand != source:
                            same(self, row_through(p, k, tuple((j + 1, told[j]) for j in trees)), row, q, hand, lot)


class Tellable(unittest.TestCase):
    def test_each(self):
        same(self, [tellable(4, f) for f in range(7)], [4, 3, 2, 1, 0, 0, 0])
        for q in range(1, 61):
            for f in (0, 1, q - 1, q, q + 1, 10 ** 18):
                same(self, tellable(q, f), q - f if f < q else 0, q, f)


class Parting(unittest.TestCase):
    def check(self, p, q, f, k, source):
        got = parting(p, q, f, k, source=source)
        about = (p, q, f, k, source, got)
        if k <= q - f:
            same(self, got, None, *about)
        else:
            same(self, type(got), tuple, *about)
            same(self, written_shows_parting(p, q, f, k, got, source), True, *about)
            same(self, shows_parting(p, q, f, k, got, source=source), True, *about)

    def test_every_small(self):
        for q in range(2, 6):
            for source in range(2 ** q):
                for f in range(q + 1):
                    for k in range(1, q + 1):
                        self.check(PRIMES_ABOVE[q], q, f, k, source)

    def test_drawn(self):
        chance = random.Random(86)
        for q in range(2, 61):
            for p in (61, GREAT):
                for f in {0, 1, q // 2, q - 1, q, chance.randrange(q)}:
                    for k in {1, q, q - f, min(q, q - f + 1), chance.randrange(1, q + 1)}:
                        if k > 0:
                            self.check(p, q, f, k, drawn_hand(chance, q))

    def test_told_twice_the_same(self):
        same(self, parting(7, 4, 2, 3, source=9), parting(7, 4, 2, 3, source=9))


class ShowsParting(unittest.TestCase):
    def asked(self, p, q, f, k, thing, source=0):
        return shows_parting(p, q, f, k, thing, source=source)

    def test_by_hand(self):
        # Of hand 3 the ways are (0, 1, 3) and (0, 2, 3): hand 1 being silent, tree 1 alone comes, at x = 2.
        same(self, self.asked(5, 2, 1, 2, (3, (1,), (0, 0), (3, 1))), True)
        same(self, self.asked(5, 2, 1, 2, (3, (1,), (3, 1), (0, 0))), True)
        same(self, shows_parting(5, 2, 1, 2, (3, (1,), (0, 0), (3, 1))), True)
        same(self, shows_parting(5, 2, 1, 2, (3, (2,), (0, 0), (3, 1))), False)
        same(self, self.asked(5, 2, 1, 2, (3, (2,), (0, 0), (4, 1))), True)
        same(self, self.asked(5, 2, 2, 2, (3, (1,), (0, 0), (3, 1))), True)
        same(self, self.asked(5, 2, 2, 1, (3, (1, 2), (0,), (1,))), True)
        # From 2 to 1 they are (2, 3, 1) and (2, 0, 1).
        same(self, self.asked(5, 2, 1, 2, (1, (3,), (0, 0), (3, 1)), source=2), True)
        same(self, self.asked(5, 2, 1, 2, (1, (0,), (0, 0), (4, 1)), source=2), True)
        same(self, self.asked(5, 2, 1, 2, (1, (3,), (0, 0), (4, 1)), source=2), False)

    def test_one_thing_wrong(self):
        for thing in (
                (0, (1,), (0, 0), (3, 1)), (4, (1,), (0, 0), (3, 1)), (-1, (1,), (0, 0), (3, 1)),
                (3, (), (0, 0), (3, 1)), (3, (2,), (0, 0), (3, 1)), (3, (0,), (0, 0), (3, 1)),
                (3, (3,), (0, 0), (3, 1)), (3, (1, 2), (0, 0), (3, 1)), (3, (1, 1), (0, 0), (3, 1)),
                (3, [1], (0, 0), (3, 1)), (3, (True,), (0, 0), (3, 1)), (3, (5,), (0, 0), (3, 1)),
                (3, (1,), (3, 1), (3, 1)), (3, (1,), (0, 0), (8, 1)), (3, (1,), (0, 0), (-2, 1)),
                (3, (1,), (0, 0), (3, True)), (3, (1,), (0, 0), (3, 2)), (3, (1,), (0,), (0, 0)),
                (3, (1,), (0, 0), (3, 1, 0)), (3, (1,), [0, 0], (3, 1)), (3, (1,), (0, 0), (3, 1), 0),
                (3, (1,), (0, 0)), [3, (1,), (0, 0), (3, 1)], (True, (1,), (0, 0), (3, 1))):
            same(self, self.asked(5, 2, 1, 2, thing), False, thing)
        # A lot too great, not rising, with the source or the hand, though it would do else.
        same(self, self.asked(5, 2, 1, 1, (3, (1, 2), (0,), (1,))), False)
        same(self, self.asked(5, 2, 2, 1, (3, (2, 1), (0,), (1,))), False)
        same(self, self.asked(5, 2, 3, 1, (3, (0, 1, 2), (0,), (1,))), False)
        same(self, self.asked(5, 2, 3, 1, (3, (1, 2, 3), (0,), (1,))), False)
        same(self, self.asked(5, 2, 3, 1, (3, (1, 1, 2), (0,), (1,))), False)

    def test_never_where_a_row_is_told(self):
        for row, other in itertools.product(itertools.product(range(3), repeat=2), repeat=2):
            for hand in range(1, 4):
                same(self, self.asked(3, 2, 0, 2, (hand, (), row, other)), False)
        for row, other in itertools.product(range(3), repeat=2):
            for hand, silent in itertools.permutations(range(1, 4), 2):
                same(self, self.asked(3, 2, 1, 1, (hand, (silent,), (row,), (other,))), False)

    def test_mutants(self):
        for q, source in ((2, 0), (2, 3), (3, 0), (3, 6)):
            p = PRIMES_ABOVE[q]
            others = [None, True, False, "1", (), [], {}, -1, 0, 2 ** q - 1, 2 ** q, p - 1, p, source, 10 ** 30]
            for f in range(1, q + 1):
                for k in range(q - f + 1, q + 1):
                    right = parting(p, q, f, k, source=source)
                    for thing in mutants(right, others):
                        want = written_shows_parting(p, q, f, k, thing, source)
                        same(self, self.asked(p, q, f, k, thing, source), want, p, q, f, k, thing, source)

    def test_drawn(self):
        chance = random.Random(87)
        found = 0
        for _ in range(4000):
            q = chance.choice((1, 2, 3))
            p = chance.choice((5, 7))
            f, k = chance.randrange(q + 1), chance.randrange(1, q + 1)
            source, hand = chance.randrange(2 ** q), chance.randrange(2 ** q)
            lot = tuple(sorted(chance.sample(range(2 ** q), chance.randrange(min(f + 1, 2 ** q)))))
            row, other = [tuple(chance.randrange(p) for _ in range(k)) for _ in range(2)]
            thing = (hand, lot, row, other)
            want = written_shows_parting(p, q, f, k, thing, source)
            found += want
            same(self, self.asked(p, q, f, k, thing, source), want, p, q, f, k, thing, source)
        self.assertTrue(found)

    def test_of_anything(self):
        for p, q, f, k in ((2, 1, 1, 1), (5, 2, 1, 2), (7, 4, 4, 1), (GREAT, 60, 30, 31)):
            for odd in oddities():
                for thing in (
                        odd, (odd,) * 4, (odd, (), (0,) * k, (1,) * k), (1, odd, (0,) * k, (1,) * k),
                        (1, (odd,), (0,) * k, (1,) * k), (1, (), odd, (1,) * k), (1, (), (0,) * k, (odd,) * k)):
                    want = written_shows_parting(p, q, f, k, thing, 0)
                    same(self, self.asked(p, q, f, k, thing), want, p, q, f, k, thing)


class Asking(unittest.TestCase):
    def test_by_places_and_by_names(self):
        check_asking(self, letters, {"p": 7, "q": 4, "rows": ((1, 2), (6,))})
        check_asking(self, came, {"q": 4, "hand": 13, "lot": (5, 6)}, source=3)
        check_asking(self, tellable, {"q": 4, "f": 1})
        for k in (2, 3):
            check_asking(self, parting, {"p": 7, "q": 4, "f": 2, "k": k}, source=9)
        for source in (0, 9):
            thing = parting(7, 4, 2, 3, source=source)
            check_asking(self, shows_parting, {"p": 7, "q": 4, "f": 2, "k": 3, "thing": thing}, source=9)
        check_asking(self, shows_parting, {"p": 7, "q": 4, "f": 2, "k": 3, "thing": [[1], {}]}, source=9)

    def test_few_steps(self):
        everyone = 2 ** 60 - 1
        row = tuple(range(60))
        counted(lambda: letters(GREAT, 60, (row,)), 20000)
        for source in (0, everyone, 2 ** 59 + 5):
            lot = tuple(sorted(source ^ 2 ** k for k in range(60)))
            counted(lambda: came(60, everyone ^ source, lot, source=source), 10000)
            for f in (1, 30, 60):
                thing = counted(lambda: parting(GREAT, 60, f, 60, source=source), 10000)
                counted(lambda: shows_parting(GREAT, 60, f, 60, thing, source=source), 30000)

    def test_somewhat_beyond_the_limits_raises_nothing(self):
        came(64, 2 ** 64, (1, 2 ** 64, 2 ** 65))
        parting(GREAT, 64, 70, 64)
        parting(GREAT, 64, 10, 70)
        parting(GREAT, 1, 1, 1)
        shows_parting(GREAT, 64, 70, 64, parting(GREAT, 64, 70, 64))


if __name__ == "__main__":
    unittest.main()
