import random
import unittest

from beatferry.beats import heard
from beatferry.having import end, first_lack, holds, last_beat, many, since
from helper import check_asking, counted, drawn, same, walked, written_since


def written_lacks(q, m, hand, t, source):
    """The letters that it hasn't ahead of beat t, of those that it may have or not, and how many are older."""
    older = max(0, min(t - q, m - 1))
    open_ones = [i for i in range(older, min(t, m - 1)) if written_since(q, m, hand, i, source) >= t]
    return older, open_ones


def written_many(q, m, hand, t, source):
    older, lacks = written_lacks(q, m, hand, t, source)
    last = 1 if written_since(q, m, hand, m - 1, source) < t else 0
    return max(older, min(t, m - 1)) - len(lacks) + last


def written_first_lack(q, m, hand, t, source):
    lacks = written_lacks(q, m, hand, t, source)[1]
    if lacks:
        return lacks[0]
    if t < m - 1:
        return t
    return None if written_since(q, m, hand, m - 1, source) < t else m - 1


class ByHand(unittest.TestCase):
    def test_three_letters_of_two_bits(self):
        # What hand 3 hears is nothing, 0, 1, 2; hand 1: 0, nothing, 2, 1; hand 2: nothing, 1, 0, 2.
        same(self, [since(2, 3, 3, i) for i in range(3)], [1, 2, 3])
        same(self, [since(2, 3, 1, i) for i in range(3)], [0, 3, 2])
        same(self, [since(2, 3, 2, i) for i in range(3)], [2, 1, 3])
        same(self, [many(2, 3, 1, t) for t in range(6)], [0, 1, 1, 2, 3, 3])
        same(self, [many(2, 3, 3, t) for t in range(6)], [0, 0, 1, 2, 3, 3])
        same(self, [first_lack(2, 3, 1, t) for t in range(6)], [0, 1, 1, 1, None, None])
        same(self, [first_lack(2, 3, 2, t) for t in range(6)], [0, 0, 0, 2, None, None])
        same(self, [holds(2, 3, 1, t, 2) for t in range(5)], [False, False, False, True, True])
        same(self, [last_beat(2, 3, hand) for hand in range(4)], [None, 3, 3, 3])
        same(self, end(2, 3), 4)

    def test_the_source(self):
        for q, m, source in ((1, 1, 0), (3, 4, 5), (60, 10 ** 18, 2 ** 59 + 7)):
            for t in (0, 1, 2 * 10 ** 18):
                same(self, since(q, m, source, m - 1, source=source), None)
                same(self, holds(q, m, source, t, m - 1, source=source), True)
                same(self, holds(q, m, source, t, 0, source=source), True)
                same(self, many(q, m, source, t, source=source), m)
                same(self, first_lack(q, m, source, t, source=source), None)
            same(self, last_beat(q, m, source, source=source), None)

    def test_one_letter(self):
        # It comes behind the last bit of the set, whichever trees bring it.
        same(self, [since(3, 1, hand, 0) for hand in range(8)], [None, 0, 1, 1, 2, 2, 2, 2])
        same(self, [last_beat(3, 1, hand) for hand in range(8)], [None, 0, 1, 1, 2, 2, 2, 2])
        same(self, [last_beat(3, 1, hand, source=5) for hand in range(8)], [2, 2, 2, 2, 0, None, 1, 1])
        same(self, [many(3, 1, 2, t) for t in range(4)], [0, 0, 1, 1])
        same(self, [first_lack(3, 1, 2, t) for t in range(4)], [0, 0, None, None])
        same(self, [holds(3, 1, 2, t, 0) for t in range(4)], [False, False, True, True])
        same(self, [since(1, 1, 1, 0), last_beat(1, 1, 1), end(1, 1)], [0, 0, 1])

    def test_great(self):
        m = 10 ** 18
        same(self, end(60, m), m + 59)
        same(self, last_beat(60, m, 1), m + 58)
        # The last letter comes to hand 1 by bit 0 alone: 10 ** 18 by 60 has the rest 40.
        same(self, since(60, m, 1, m - 1), m + 20)
        same(self, since(60, m, 1, m - 2), m + 58)
        same(self, many(60, m, 1, m), m - 59)
        same(self, many(60, m, 1, 2 * m), m)
        same(self, first_lack(60, m, 1, m), m - 60)


class AsWalked(unittest.TestCase):
    def check_all(self, q, source, m):
        """All hands, beat by beat, by what comes to each."""
        beats = m + 2 * q + 1
        came = walked(q, m, source, beats)
        has = {hand: set() for hand in range(2 ** q)}
        first = {}
        for t in range(beats):
            for hand in range(2 ** q):
                self.check_ahead(q, m, hand, t, source, set(range(m)) if hand == source else has[hand])
            told = [(hand, *came[hand, t]) for hand in has if (hand, t) in came]
            # The one who tells it has it by then.
            for hand, other, letter in told:
                self.assertTrue(other == source or letter in has[other], (q, m, hand, t, source))
            for hand, _, letter in told:
                if letter not in has[hand]:
                    first[hand, letter] = t
                    has[hand].add(letter)
            if t + 1 == end(q, m):
                self.assertTrue(all(len(has[hand]) == m for hand in has if hand != source))
        self.check_first(q, m, source, first)

    def check_ahead(self, q, m, hand, t, source, has):
        about = (q, m, hand, t, source)
        for i in range(m):
            same(self, holds(q, m, hand, t, i, source=source), i in has, i, *about)
        same(self, many(q, m, hand, t, source=source), len(has), *about)
        lacks = [i for i in range(m) if i not in has]
        same(self, first_lack(q, m, hand, t, source=source), min(lacks, default=None), *about)

    def check_first(self, q, m, source, first):
        for hand in range(2 ** q):
            if hand == source:
                continue
            for i in range(m):
                same(self, since(q, m, hand, i, source=source), first[hand, i], q, m, hand, i, source)
            want = max(first[hand, i] for i in range(m))
            same(self, last_beat(q, m, hand, source=source), want, q, m, hand, source)

    def test_every_small(self):
        for q in range(1, 4):
            for source in range(2 ** q):
                for m in (1, 2, 3, 4, 2 * q + 2):
                    self.check_all(q, source, m)

    def test_four_bits(self):
        for source in (0, 5, 15):
            for m in (1, 2, 3, 4, 5, 9):
                self.check_all(4, source, m)

    def test_end(self):
        for q in range(1, 61):
            for m in (1, 2, 3, 10, 10 ** 18):
                same(self, end(q, m), m - 1 + q, q, m)

    def test_some_hand_s_last_beat_is_the_last_of_all(self):
        for q in range(1, 6):
            for m in range(1, 9):
                lasts = [last_beat(q, m, hand) for hand in range(1, 2 ** q)]
                self.assertEqual(max(lasts), end(q, m) - 1)


class Drawn(unittest.TestCase):
    def questions(self, seed, many_of_them):
        chance = random.Random(seed)
        for q, source, hand in drawn(seed, many_of_them):
            if hand == source:
                hand ^= 2 ** chance.randrange(q)
            m = chance.choice((1, 2, 3, q, 10 ** 18, chance.randrange(1, 200), chance.randrange(1, 10 ** 18)))
            yield chance, q, source, hand, m

    def test_since_and_holds(self):
        for chance, q, source, hand, m in self.questions(41, 400):
            for i in {0, m - 1, max(0, m - 2), max(0, m - 1 - chance.randrange(2 * q)), chance.randrange(m)}:
                want = written_since(q, m, hand, i, source)
                same(self, since(q, m, hand, i, source=source), want, q, m, hand, i, source)
                same(self, holds(q, m, hand, want, i, source=source), False, q, m, hand, i, source)
                same(self, holds(q, m, hand, want + 1, i, source=source), True, q, m, hand, i, source)
                same(self, holds(q, m, hand, i, i, source=source), False, q, m, hand, i, source)
                same(self, holds(q, m, hand, 2 * 10 ** 18, i, source=source), True, q, m, hand, i, source)

    def test_since_is_first_heard(self):
        for chance, q, source, hand, m in self.questions(42, 300):
            i = chance.choice((0, m - 1, max(0, m - 2), chance.randrange(m)))
            t = since(q, m, hand, i, source=source)
            same(self, heard(q, m, hand, t, source=source)[1], i, q, m, hand, i, source)
            for ahead in range(max(0, t - 2 * q), t):
                told = heard(q, m, hand, ahead, source=source)
                self.assertTrue(told is None or told[1] != i, (q, m, hand, i, source, ahead))

    def test_many_and_first_lack(self):
        for chance, q, source, hand, m in self.questions(43, 250):
            for t in {
                    0, 1, q - 1, q, chance.randrange(2 * q), m - 1, max(0, m - chance.randrange(2 * q)),
                    m + chance.randrange(2 * q), m - 1 + q, chance.randrange(2 * m), 2 * 10 ** 18}:
                about = (q, m, hand, t, source)
                same(self, many(q, m, hand, t, source=source), written_many(q, m, hand, t, source), *about)
                want = written_first_lack(q, m, hand, t, source)
                same(self, first_lack(q, m, hand, t, source=source), want, *about)

    def test_last_beat(self):
        for chance, q, source, hand, m in self.questions(44, 250):
            near = range(max(0, m - 1 - q), m)
            want = max(written_since(q, m, hand, i, source) for i in near)
            same(self, last_beat(q, m, hand, source=source), want, q, m, hand, source)
            same(self, first_lack(q, m, hand, want + 1, source=source), None, q, m, hand, source)
            same(self, many(q, m, hand, want, source=source), m - 1, q, m, hand, source)


class Asking(unittest.TestCase):
    def test_by_places_and_by_names(self):
        for hand in (13, 6, 0):
            for t in (0, 5, 9, 13):
                check_asking(self, holds, {"q": 4, "m": 9, "hand": hand, "t": t, "i": 4}, source=6)
                check_asking(self, many, {"q": 4, "m": 9, "hand": hand, "t": t}, source=6)
                check_asking(self, first_lack, {"q": 4, "m": 9, "hand": hand, "t": t}, source=6)
            for i in (0, 4, 8):
                check_asking(self, since, {"q": 4, "m": 9, "hand": hand, "i": i}, source=6)
            for m in (1, 9):
                check_asking(self, last_beat, {"q": 4, "m": m, "hand": hand}, source=6)
        check_asking(self, end, {"q": 4, "m": 9})

    def test_few_steps(self):
        everyone = 2 ** 60 - 1
        m = 10 ** 18
        for source in (0, everyone, 2 ** 59 + 5):
            for hand in (source, source ^ 2 ** 30, everyone ^ source, everyone):
                counted(lambda: last_beat(60, m, hand, source=source), 3000)
                counted(lambda: last_beat(60, 1, hand, source=source), 3000)
                for t in (0, m - 30, m, m + 30, 2 * m):
                    counted(lambda: many(60, m, hand, t, source=source), 3000)
                    counted(lambda: first_lack(60, m, hand, t, source=source), 3000)
                    for i in (0, m - 2, m - 1):
                        counted(lambda: since(60, m, hand, i, source=source), 3000)
                        counted(lambda: holds(60, m, hand, t, i, source=source), 3000)

    def test_somewhat_beyond_the_limits_raises_nothing(self):
        m = 10 ** 19
        for hand in (0, 1, 2 ** 63, 2 ** 64 - 1, 2 ** 64):
            last_beat(64, m, hand)
            for t in (0, 63, m, 4 * m):
                many(64, m, hand, t)
                first_lack(64, m, hand, t)
                holds(64, m, hand, t, m)
                since(64, m, hand, m, source=2 ** 62)


if __name__ == "__main__":
    unittest.main()
