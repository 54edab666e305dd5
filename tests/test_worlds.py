import itertools
import random
import unittest

from beatferry.lies import by_way
from beatferry.silence import letters
from beatferry.worlds import shows_worlds, worlds
from helper import (
    check_asking, counted, drawn_hand, mutants, oddities, same, written_crossed, written_value, written_way)

PRIMES_ABOVE = {1: 2, 2: 3, 3: 5, 4: 5, 5: 7, 6: 7}
GREAT = 999999937


def written_lot(q, f, hand, lot, source):
    if type(lot) is not tuple or any(type(one) is not int or not 0 <= one <= 2 ** q - 1 for one in lot):
        return False
    return list(lot) == sorted(set(lot)) and len(lot) <= f and source not in lot and hand not in lot


def written_row(p, k, row):
    if type(row) is not tuple or len(row) != k:
        return False
    return all(type(number) is int and 0 <= number <= p - 1 for number in row)


def written_shows_worlds(p, q, f, k, thing, source):
    """As point 14 words it, one thing behind the other."""
    if type(thing) is not tuple or len(thing) != 6:
        return False
    hand, lot, other_lot, row, other_row, heard = thing
    if type(hand) is not int or not 0 <= hand <= 2 ** q - 1 or hand == source:
        return False
    if not written_lot(q, f, hand, lot, source) or not written_lot(q, f, hand, other_lot, source):
        return False
    if not written_row(p, k, row) or not written_row(p, k, other_row) or row == other_row:
        return False
    if not written_row(p, q, heard):
        return False
    for some, told in ((lot, row), (other_lot, other_row)):
        for j in range(q):
            between = set(written_way(q, hand, j, source)[1:-1])
            if not between & set(some) and heard[j] != written_value(p, told, j + 1):
                return False
    return True


def lies_of(p, q, hand, lot, row, heard, source):
    """Faults of the lot by which the hand hears just this of the row."""
    faults = []
    for j in range(q):
        more = (heard[j] - written_value(p, row, j + 1)) % p
        hands = written_way(q, hand, j, source)
        places = [at for at in range(1, len(hands) - 1) if hands[at] in lot]
        if more and places:
            faults.append((hands[places[0]], written_crossed(q, hand, j, source)[places[0]], 0, more))
    return tuple(faults)


class Worlds(unittest.TestCase):
    def check(self, p, q, f, k, source):
        got = worlds(p, q, f, k, source=source)
        about = (p, q, f, k, source, got)
        if k <= max(0, q - 2 * f):
            same(self, got, None, *about)
        else:
            same(self, type(got), tuple, *about)
            same(self, written_shows_worlds(p, q, f, k, got, source), True, *about)
            same(self, shows_worlds(p, q, f, k, got, source=source), True, *about)

    def test_every_small(self):
        for q in range(2, 6):
            for source in range(2 ** q):
                for f in range(q // 2 + 1):
                    for k in range(1, q + 1):
                        self.check(PRIMES_ABOVE[q], q, f, k, source)

    def test_great(self):
        chance = random.Random(141)
        for q in range(2, 61):
            for p in (61, GREAT):
                for f in {0, 1, q // 2, chance.randrange(q // 2 + 1)}:
                    for k in {1, q, q - 2 * f, min(q, q - 2 * f + 1), chance.randrange(1, q + 1)}:
                        if k > 0:
                            self.check(p, q, f, k, drawn_hand(chance, q))

    def test_told_twice_the_same(self):
        same(self, worlds(7, 5, 2, 3, source=9), worlds(7, 5, 2, 3, source=9))

    def test_the_hand_hears_the_same_in_both(self):
        chance = random.Random(142)
        for _ in range(150):
            q = chance.randrange(2, 13)
            p, source = chance.choice((13, GREAT)), drawn_hand(chance, q)
            f = chance.randrange(1, q // 2 + 1)
            k = chance.randrange(max(1, q - 2 * f + 1), q + 1)
            hand, lot, other_lot, row, other_row, heard = worlds(p, q, f, k, source=source)
            for some, told in ((lot, row), (other_lot, other_row)):
                faults = lies_of(p, q, hand, some, told, heard, source)
                sent = letters(p, q, (told,))
                got = tuple(by_way(p, q, hand, j, sent[j], faults, source=source) for j in range(q))
                same(self, got, heard, p, q, f, k, source, faults)


class ShowsWorlds(unittest.TestCase):
    def asked(self, p, q, f, k, thing, source=0):
        return shows_worlds(p, q, f, k, thing, source=source)

    def test_by_hand(self):
        # Of hand 3 the ways are (0, 1, 3) and (0, 2, 3): hand 1 spoils tree 0, hand 2 tree 1.
        same(self, self.asked(5, 2, 1, 1, (3, (1,), (2,), (0,), (4,), (4, 0))), True)
        same(self, shows_worlds(5, 2, 1, 1, (3, (1,), (2,), (0,), (4,), (4, 0))), True)
        same(self, self.asked(5, 2, 1, 1, (3, (2,), (1,), (0,), (4,), (0, 4))), True)
        same(self, self.asked(5, 2, 1, 1, (3, (2,), (1,), (0,), (4,), (4, 0))), False)
        same(self, self.asked(5, 2, 1, 1, (3, (1,), (1,), (0,), (4,), (4, 0))), False)
        same(self, self.asked(5, 2, 1, 1, (3, (1,), (2,), (0,), (4,), (3, 0))), False)
        # The same lot in both: the row (3, 1) has 0 at 2, as (0, 0) has; what tree 0 tells is free.
        for any_number in range(5):
            same(self, self.asked(5, 2, 1, 2, (3, (1,), (1,), (0, 0), (3, 1), (any_number, 0))), True)
        # Two hands spoil both trees, so nothing need fit in that world.
        same(self, self.asked(5, 2, 2, 1, (3, (1, 2), (), (0,), (4,), (4, 4))), True)
        same(self, self.asked(5, 2, 2, 1, (3, (), (1, 2), (0,), (4,), (0, 0))), True)
        same(self, self.asked(5, 2, 2, 1, (3, (), (1, 2), (0,), (4,), (4, 4))), False)
        # From 2 to 1 the ways are (2, 3, 1) and (2, 0, 1).
        same(self, self.asked(5, 2, 1, 1, (1, (3,), (0,), (0,), (4,), (4, 0)), source=2), True)
        same(self, self.asked(5, 2, 1, 1, (1, (0,), (3,), (0,), (4,), (4, 0)), source=2), False)

    def test_one_thing_wrong(self):
        for thing in (
                (0, (1,), (2,), (0,), (4,), (4, 0)), (1, (1,), (2,), (0,), (4,), (4, 0)),
                (4, (1,), (2,), (0,), (4,), (4, 0)), (True, (1,), (2,), (0,), (4,), (4, 0)),
                (3, (), (2,), (0,), (4,), (4, 0)), (3, (1,), (), (0,), (4,), (4, 0)),
                (3, (1, 2), (2,), (0,), (4,), (4, 0)), (3, (1,), (1, 2), (0,), (4,), (4, 0)),
                (3, [1], (2,), (0,), (4,), (4, 0)), (3, (1,), [2], (0,), (4,), (4, 0)),
                (3, (True,), (2,), (0,), (4,), (4, 0)), (3, (1,), (2,), (0,), (0,), (0, 0)),
                (3, (1,), (2,), (False,), (4,), (4, 0)), (3, (1,), (2,), (0,), (9,), (4, 0)),
                (3, (1,), (2,), (0,), (-1,), (4, 0)), (3, (1,), (2,), [0], (4,), (4, 0)),
                (3, (1,), (2,), (0,), (4, 0), (4, 0)), (3, (1,), (2,), (0,), (4,), (4, 0, 0)),
                (3, (1,), (2,), (0,), (4,), (4,)), (3, (1,), (2,), (0,), (4,), [4, 0]),
                (3, (1,), (2,), (0,), (4,), (9, 0)), (3, (1,), (2,), (0,), (4,), (4, 5)),
                (3, (1,), (2,), (0,), (4,), (4, None)), (3, (1,), (2,), (0,), (4,), (4, False)),
                (3, (1,), (2,), (0,), (4,)), (3, (1,), (2,), (0,), (4,), (4, 0), 0),
                [3, (1,), (2,), (0,), (4,), (4, 0)]):
            same(self, self.asked(5, 2, 1, 1, thing), False, thing)
        # Lots too great, not rising, with the source or the hand, though they would do else.
        same(self, self.asked(5, 2, 2, 1, (3, (2, 1), (), (0,), (4,), (4, 4))), False)
        same(self, self.asked(5, 2, 3, 1, (3, (1, 1, 2), (), (0,), (4,), (4, 4))), False)
        same(self, self.asked(5, 2, 3, 1, (3, (0, 1, 2), (), (0,), (4,), (4, 4))), False)
        same(self, self.asked(5, 2, 3, 1, (3, (1, 2, 3), (), (0,), (4,), (4, 4))), False)

    def test_never_where_the_row_is_told(self):
        hands = range(1, 8)
        lots = [()] + [(one,) for one in hands]
        chance = random.Random(143)
        for hand, lot, other_lot in itertools.product(hands, lots, lots):
            for row, other_row in itertools.permutations(range(5), 2):
                heard = [row] * 3
                for j in range(3):
                    heard[j] = chance.choice((row, other_row))
                thing = (hand, lot, other_lot, (row,), (other_row,), tuple(heard))
                same(self, self.asked(5, 3, 1, 1, thing), False, thing)

    def test_mutants(self):
        for q, source in ((2, 0), (2, 3), (3, 6), (4, 9)):
            p = PRIMES_ABOVE[q]
            others = [None, True, False, "1", (), [], {}, -1, 0, 2 ** q - 1, 2 ** q, p - 1, p, source, 10 ** 30]
            for f in range(1, q // 2 + 1):
                for k in range(max(1, q - 2 * f + 1), q + 1):
                    right = worlds(p, q, f, k, source=source)
                    for thing in mutants(right, others):
                        want = written_shows_worlds(p, q, f, k, thing, source)
                        same(self, self.asked(p, q, f, k, thing, source), want, p, q, f, k, thing, source)

    def test_drawn(self):
        chance = random.Random(144)
        found = 0
        for _ in range(6000):
            q = chance.choice((1, 2, 3))
            p = chance.choice((5, 7)) if q > 1 else 2
            f, k = chance.randrange(q + 1), chance.randrange(1, q + 1)
            source, hand = chance.randrange(2 ** q), chance.randrange(2 ** q)
            lot, other_lot = [
                tuple(sorted(chance.sample(range(2 ** q), chance.randrange(min(f + 1, 2 ** q))))) for _ in range(2)]
            row, other_row = [tuple(chance.randrange(p) for _ in range(k)) for _ in range(2)]
            heard = tuple(written_value(p, chance.choice((row, other_row)), j + 1) for j in range(q))
            thing = (hand, lot, other_lot, row, other_row, heard)
            want = written_shows_worlds(p, q, f, k, thing, source)
            found += want
            same(self, self.asked(p, q, f, k, thing, source), want, p, q, f, k, thing, source)
        self.assertTrue(found)

    def test_of_anything(self):
        for p, q, f, k in ((2, 1, 1, 1), (5, 2, 1, 2), (7, 4, 2, 1), (GREAT, 60, 30, 31)):
            right = (3, (1,), (2,), (0,) * k, (1,) * k, (1,) * q)
            for odd in oddities():
                things = [odd, (odd,) * 6, ((odd,),) * 6]
                for at in range(6):
                    things.append(right[:at] + (odd,) + right[at + 1:])
                    things.append(right[:at] + ((odd,),) + right[at + 1:])
                    things.append(right[:at] + ((odd,) * k,) + right[at + 1:])
                    things.append(right[:at] + ((odd,) * q,) + right[at + 1:])
                for thing in things:
                    before = repr(thing)
                    want = written_shows_worlds(p, q, f, k, thing, 0)
                    same(self, self.asked(p, q, f, k, thing), want, p, q, f, k, thing)
                    self.assertEqual(repr(thing), before)


class Asking(unittest.TestCase):
    def test_by_places_and_by_names(self):
        for k in (1, 3):
            check_asking(self, worlds, {"p": 7, "q": 5, "f": 2, "k": k}, source=9)
        for source in (0, 9):
            thing = worlds(7, 5, 2, 3, source=source)
            check_asking(self, shows_worlds, {"p": 7, "q": 5, "f": 2, "k": 3, "thing": thing}, source=9)
        check_asking(self, shows_worlds, {"p": 7, "q": 4, "f": 2, "k": 3, "thing": [[1], {}]}, source=9)

    def test_few_steps(self):
        everyone = 2 ** 60 - 1
        for source in (0, everyone, 2 ** 59 + 5):
            for f in (1, 15, 30):
                thing = counted(lambda: worlds(GREAT, 60, f, 60, source=source), 60000)
                counted(lambda: shows_worlds(GREAT, 60, f, 60, thing, source=source), 60000)

    def test_somewhat_beyond_the_limits_raises_nothing(self):
        for p, q, f, k in ((GREAT, 64, 33, 64), (GREAT, 64, 70, 70), (GREAT, 1, 1, 1), (7, 4, 3, 5), (7, 4, 0, 5)):
            shows_worlds(p, q, f, k, worlds(p, q, f, k))


if __name__ == "__main__":
    unittest.main()
