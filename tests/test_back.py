import collections
import random
import unittest

from beatferry.back import back_heard, back_told, first_teller
from beatferry.having import end, since
from helper import check_asking, counted, drawn, first_hearings, same, written_since


def written_back(q, m, source):
    """By (hand, beat u) what it gives back, by the walk turned round."""
    told = {}
    for (hand, letter), (t, teller) in first_hearings(q, m, source).items():
        u = m - 2 + q - t
        if (hand, u) in told:
            raise ValueError("two letters first heard at one beat")
        told[hand, u] = (teller, letter)
    return told


def written_back_told(q, m, hand, u, source):
    """Of great q and m: of the letters that may be first heard at that beat the one that is."""
    t = m - 2 + q - u
    if hand == source:
        return None
    for i in range(max(0, min(t - q, m - 1)), min(t, m - 1) + 1):
        if written_since(q, m, hand, i, source) == t:
            return (hand ^ 2 ** (t % q), i)
    return None


class ByHand(unittest.TestCase):
    def test_three_letters_of_two_bits(self):
        # Hand 3 first hears 0, 1, 2 at the beats 1, 2, 3; hand 1 0, 2, 1 at 0, 2, 3; hand 2 1, 0, 2 at 1, 2, 3.
        same(self, [first_teller(2, 3, 3, i) for i in range(3)], [1, 2, 1])
        same(self, [first_teller(2, 3, 1, i) for i in range(3)], [0, 3, 0])
        same(self, [first_teller(2, 3, 2, i) for i in range(3)], [3, 0, 0])
        same(self, [first_teller(2, 3, 0, i) for i in range(3)], [None, None, None])
        same(self, [back_told(2, 3, 3, u) for u in range(4)], [(1, 2), (2, 1), (1, 0), None])
        same(self, [back_told(2, 3, 1, u) for u in range(4)], [(3, 1), (0, 2), None, (0, 0)])
        same(self, [back_told(2, 3, 2, u) for u in range(4)], [(0, 2), (3, 0), (0, 1), None])
        same(self, [back_told(2, 3, 0, u) for u in range(4)], [None, None, None, None])
        same(self, [back_heard(2, 3, 0, u) for u in range(4)], [(2, 2), (1, 2), (2, 1), (1, 0)])
        same(self, [back_heard(2, 3, 1, u) for u in range(4)], [(3, 2), None, (3, 0), None])
        same(self, [back_heard(2, 3, 2, u) for u in range(4)], [None, (3, 1), None, None])
        same(self, [back_heard(2, 3, 3, u) for u in range(4)], [(1, 1), (2, 0), None, None])

    def test_one_bit(self):
        same(self, [back_told(1, 2, 1, u) for u in range(2)], [(0, 1), (0, 0)])
        same(self, [back_told(1, 2, 0, u) for u in range(2)], [None, None])
        same(self, [back_heard(1, 2, 0, u) for u in range(2)], [(1, 1), (1, 0)])
        same(self, [back_heard(1, 2, 1, u) for u in range(2)], [None, None])
        same(self, [back_told(1, 1, 0, 0, source=1), first_teller(1, 1, 0, 0, source=1)], [(1, 0), 1])

    def test_great(self):
        m = 10 ** 18
        # The last beat u is that of the first letter: to hand 1 it came at beat 0.
        same(self, back_told(60, m, 1, m + 58), (0, 0))
        same(self, back_heard(60, m, 0, m + 58), (1, 0))
        same(self, back_told(60, m, 2, m + 58), None)
        same(self, back_told(60, m, 2, m + 57), (0, 1))
        same(self, back_heard(60, m, 1, m + 57), (3, 0))
        same(self, first_teller(60, m, 2 ** 59, 60 * 10 ** 15 + 59), 0)


class AsWalked(unittest.TestCase):
    def check_all(self, q, m, source):
        first = first_hearings(q, m, source)
        told = written_back(q, m, source)
        for hand in range(2 ** q):
            for i in range(m):
                want = None if hand == source else first[hand, i][1]
                same(self, first_teller(q, m, hand, i, source=source), want, q, m, hand, i, source)
            for u in range(m - 1 + q):
                about = (q, m, hand, u, source)
                same(self, back_told(q, m, hand, u, source=source), told.get((hand, u)), *about)
                other = hand ^ 2 ** ((m - 2 + q - u) % q)
                want = told.get((other, u))
                if want is not None:
                    want = (other, want[1])
                same(self, back_heard(q, m, hand, u, source=source), want, *about)
        # No first hearing lies outside of the beats.
        self.assertTrue(all(0 <= u <= m - 2 + q for _, u in told))

    def test_every_small(self):
        for q in range(1, 4):
            for source in range(2 ** q):
                for m in (1, 2, 3, q, q + 1, 2 * q + 1):
                    self.check_all(q, m, source)

    def test_four_and_five_bits(self):
        for q in (4, 5):
            for source in range(0, 2 ** q, 5):
                for m in (1, q, 2 * q + 3):
                    self.check_all(q, m, source)

    def test_drawn(self):
        chance = random.Random(161)
        told = set()
        for q, source, hand in drawn(161, 360):
            m = chance.choice((1, 2, q, 10 ** 18, chance.randrange(1, 200), chance.randrange(1, 10 ** 18)))
            last = m - 2 + q
            beats = {0, last, last // 2, chance.randrange(last + 1), chance.randrange(min(last + 1, 3 * q))}
            beats |= {max(0, last - chance.randrange(3 * q)), min(q - 1, last), min(q, last)}
            for u in beats:
                about = (q, m, hand, u, source)
                want = written_back_told(q, m, hand, u, source)
                told.add(want is None)
                same(self, back_told(q, m, hand, u, source=source), want, *about)
                other = hand ^ 2 ** ((last - u) % q)
                want = written_back_told(q, m, other, u, source)
                same(self, back_heard(q, m, hand, u, source=source), want and (other, want[1]), *about)
            i = chance.choice((0, m - 1, max(0, m - 2), chance.randrange(m)))
            want = None
            if hand != source:
                want = hand ^ 2 ** (written_since(q, m, hand, i, source) % q)
            same(self, first_teller(q, m, hand, i, source=source), want, q, m, hand, i, source)
        self.assertEqual(told, {True, False})


class Together(unittest.TestCase):
    """What 3 (g) says."""

    def test_each_number_is_added_once(self):
        for q in range(1, 5):
            for source in range(0, 2 ** q, 3):
                for m in (1, 2, q, 2 * q + 3):
                    self.check_sums(q, m, source)
        self.check_sums(5, 7, 19)
        self.check_sums(6, 9, 63)

    def check_sums(self, q, m, source):
        hands = range(2 ** q)
        # By hand and letter how many times whose number is in it.
        parts = {(hand, i): collections.Counter([hand]) for hand in hands for i in range(m)}
        for u in range(end(q, m)):
            tellings = [(hand, back_told(q, m, hand, u, source=source)) for hand in hands]
            tellings = [(hand, *told) for hand, told in tellings if told is not None]
            # One hears one, at most, and just what back_heard tells.
            hearers = {hearer: (hand, i) for hand, hearer, i in tellings}
            self.assertEqual(len(hearers), len(tellings), (q, m, source, u))
            for hand in hands:
                same(self, back_heard(q, m, hand, u, source=source), hearers.get(hand), q, m, hand, u, source)
            before = {key: parts[key].copy() for key in parts}
            for hand, hearer, i in tellings:
                parts[hearer, i].update(before[hand, i])
        for i in range(m):
            self.assertEqual(parts[source, i], collections.Counter(hands), (q, m, source, i))

    def test_given_back_to_the_first_teller_once(self):
        chance = random.Random(162)
        for q, source, hand in drawn(162, 300):
            m = chance.choice((1, q, 10 ** 18))
            i = chance.choice((0, m - 1, chance.randrange(m)))
            if hand != source:
                u = end(q, m) - 1 - since(q, m, hand, i, source=source)
                teller = first_teller(q, m, hand, i, source=source)
                same(self, back_told(q, m, hand, u, source=source), (teller, i), q, m, hand, i, source)
                same(self, back_heard(q, m, teller, u, source=source), (hand, i), q, m, hand, i, source)


class Asking(unittest.TestCase):
    def test_by_places_and_by_names(self):
        for i in (0, 4, 8):
            check_asking(self, first_teller, {"q": 4, "m": 9, "hand": 13, "i": i}, source=6)
        for u in range(12):
            check_asking(self, back_told, {"q": 4, "m": 9, "hand": 13, "u": u}, source=6)
            check_asking(self, back_heard, {"q": 4, "m": 9, "hand": 13, "u": u}, source=6)
        check_asking(self, back_heard, {"q": 4, "m": 9, "hand": 6, "u": 3}, source=6)

    def test_few_steps(self):
        everyone, m = 2 ** 60 - 1, 10 ** 18
        for source in (0, everyone, 2 ** 59 + 5):
            for hand in (source, source ^ 2 ** 30, everyone ^ source, everyone):
                for u in (0, 59, m // 2, m + 58):
                    counted(lambda: back_told(60, m, hand, u, source=source), 5000)
                    counted(lambda: back_heard(60, m, hand, u, source=source), 5000)
                counted(lambda: first_teller(60, m, hand, m // 3, source=source), 5000)

    def test_somewhat_beyond_the_limits_raises_nothing(self):
        for hand in (0, 2 ** 63, 2 ** 64 - 1, 2 ** 64):
            first_teller(64, 10 ** 20, hand, 10 ** 20)
            for u in (0, 10 ** 20, 10 ** 20 + 70, -1):
                back_told(64, 10 ** 20, hand, u)
                back_heard(64, 10 ** 20, hand, u, source=2 ** 62)


if __name__ == "__main__":
    unittest.main()
