import random
import unittest

from beatferry.beats import heard, told, tree_at
from beatferry.trees import delay, teller
from helper import check_asking, comes, counted, drawn, same, small, walked, written_way


def written_heard(q, m, hand, t, source):
    """Of all letters that may come at beat t the one that does, by a walk of each along its way."""
    for i in range(max(0, t - q), t + 1):
        if comes(q, hand, i, source) == t:
            return (written_way(q, hand, i % q, source)[-2], min(i, m - 1))
    return None


def drawn_beats(chance, q, m):
    """Beats of all sizes: the first ones, those about the last letter, far behind it."""
    return {
        0, chance.randrange(2 * q), q - 1, q, m - 1, m, max(0, m - 1 - chance.randrange(2 * q)),
        m + chance.randrange(2 * q), chance.randrange(2 * m), chance.randrange(2 * 10 ** 18 + 1), 2 * 10 ** 18}


class ByHand(unittest.TestCase):
    def test_tree_at(self):
        # Hand 13 has the bits 0, 2, 3: at the beats 0, 1, 2, 3 it crosses by these, the tree's turn is the next one's.
        same(self, [tree_at(4, 13, t) for t in range(4)], [2, 1, 3, 0])
        same(self, [tree_at(4, 13, t) for t in range(4, 8)], [2, 1, 3, 0])
        same(self, [tree_at(4, 4, t) for t in range(4)], [0, 1, 2, 3])
        same(self, [tree_at(4, 0, t) for t in range(5)], [0, 1, 2, 3, 0])
        same(self, [tree_at(3, 6, t, source=5) for t in range(3)], [1, 0, 2])
        same(self, [tree_at(1, hand, 10 ** 18) for hand in (0, 1)], [0, 0])
        same(self, tree_at(60, 2 ** 59 + 1, 2 * 10 ** 18), 2 * 10 ** 18 % 60)

    def test_heard(self):
        # Two bits, three letters: the ways to 3 are (0, 1, 3) and (0, 2, 3).
        same(self, [heard(2, 3, 3, t) for t in range(6)], [None, (1, 0), (2, 1), (1, 2), (2, 2), (1, 2)])
        same(self, [heard(2, 3, 1, t) for t in range(6)], [(0, 0), None, (0, 2), (3, 1), (0, 2), (3, 2)])
        same(self, [heard(2, 3, 2, t) for t in range(6)], [None, (0, 1), (3, 0), (0, 2), (3, 2), (0, 2)])
        same(self, [heard(2, 3, 0, t) for t in range(6)], [None, None, (1, 0), (2, 1), (1, 2), (2, 2)])

    def test_told(self):
        same(self, [told(2, 3, 0, t) for t in range(6)], [(1, 0), (2, 1), (1, 2), (2, 2), (1, 2), (2, 2)])
        same(self, [told(2, 3, 1, t) for t in range(6)], [None, (3, 0), (0, 0), (3, 2), (0, 2), (3, 2)])
        same(self, [told(2, 3, 3, t) for t in range(6)], [None, None, (2, 0), (1, 1), (2, 2), (1, 2)])

    def test_one_bit(self):
        same(self, [heard(1, 2, 1, t) for t in range(3)], [(0, 0), (0, 1), (0, 1)])
        same(self, [heard(1, 2, 0, t) for t in range(3)], [None, (1, 0), (1, 1)])
        same(self, [heard(1, 2, 0, t, source=1) for t in range(3)], [(1, 0), (1, 1), (1, 1)])
        same(self, [told(1, 2, 0, t) for t in range(3)], [(1, 0), (1, 1), (1, 1)])
        same(self, [told(1, 2, 1, t) for t in range(3)], [None, (0, 0), (0, 1)])

    def test_great(self):
        m = 10 ** 18
        # 2 * 10 ** 18 by 60 has the rest 20, and so has 10 ** 18 the rest 40.
        same(self, heard(60, m, 2 ** 20, 2 * m), (0, m - 1))
        same(self, heard(60, m, 2 ** 40, m - 60), (0, m - 60))
        same(self, heard(60, m, 0, m), (2 ** 40, m - 60))
        same(self, told(60, m, 0, m), (2 ** 40, m - 1))
        same(self, told(60, m, 0, m - 1), (2 ** 39, m - 1))
        same(self, told(60, m, 2 ** 60 - 1, m), (2 ** 60 - 1 - 2 ** 40, m - 60))


class AsWalked(unittest.TestCase):
    def check_all(self, q, source, m, beats):
        came = walked(q, m, source, beats)
        for hand in range(2 ** q):
            for t in range(beats):
                about = (q, m, hand, t, source)
                same(self, heard(q, m, hand, t, source=source), came.get((hand, t)), *about)
                other = hand ^ 2 ** (t % q)
                want = came.get((other, t))
                same(self, told(q, m, hand, t, source=source), want and (other, want[1]), *about)

    def test_every_small(self):
        for q in range(1, 4):
            for source in range(2 ** q):
                for m in (1, 2, 3, q, q + 1, 2 * q + 1):
                    self.check_all(q, source, m, m + 4 * q)

    def test_four_and_five_bits(self):
        for q in (4, 5):
            for source in range(0, 2 ** q, 3):
                for m in (1, q, 2 * q + 3):
                    self.check_all(q, source, m, m + 3 * q)

    def test_tree_at(self):
        for q, source, hand in small(4):
            turn = {comes(q, hand, i, source): i % q for i in range(4 * q)}
            for t in range(q, 3 * q):
                same(self, tree_at(q, hand, t, source=source), turn[t], q, hand, t, source)
                same(self, tree_at(q, hand, t - q, source=source), turn[t], q, hand, t, source)
                far = t + q * 10 ** 17
                same(self, tree_at(q, hand, far, source=source), turn[t], q, hand, far, source)

    def test_far_behind_the_last_letter(self):
        for q, source, hand in small(4):
            for t in (10 ** 9, 10 ** 9 + 1, 2 * 10 ** 18 - 1, 2 * 10 ** 18):
                other = hand ^ 2 ** (t % q)
                same(self, heard(q, 7, hand, t, source=source), (other, 6), q, hand, t, source)
                same(self, told(q, 7, hand, t, source=source), (other, 6), q, hand, t, source)

    def test_drawn(self):
        chance = random.Random(31)
        for q, source, hand in drawn(31, 360):
            m = chance.choice((1, 2, q, 10 ** 18, chance.randrange(1, 200), chance.randrange(1, 10 ** 18)))
            for t in drawn_beats(chance, q, m):
                about = (q, m, hand, t, source)
                want = written_heard(q, m, hand, t, source)
                same(self, heard(q, m, hand, t, source=source), want, *about)


class Together(unittest.TestCase):
    """What 3 (b) says, asked of the program alone."""

    def check_beat(self, q, m, hand, t, source):
        about = (q, m, hand, t, source)
        other = hand ^ 2 ** (t % q)
        mine = heard(q, m, hand, t, source=source)
        theirs = told(q, m, other, t, source=source)
        same(self, theirs is None, mine is None, *about)
        if mine is not None:
            same(self, mine, (other, theirs[1]), *about)
            same(self, theirs, (hand, mine[1]), *about)
        j = tree_at(q, hand, t, source=source)
        # The one who tells it is that tree's teller, and heard it by that tree at an earlier beat.
        same(self, teller(q, hand, j, source=source), other, *about)
        if other != source:
            earlier = t - delay(q, hand, j, source=source) + delay(q, other, j, source=source)
            self.assertLess(earlier, t, about)
            if mine is not None:
                same(self, heard(q, m, other, earlier, source=source)[1], mine[1], *about)

    def test_every_small(self):
        for q, source, hand in small(4):
            for m in (1, q + 2):
                for t in range(3 * q + m):
                    self.check_beat(q, m, hand, t, source)

    def test_drawn(self):
        chance = random.Random(32)
        for q, source, hand in drawn(32, 600):
            m = chance.choice((1, 10 ** 18, chance.randrange(1, 200), chance.randrange(1, 10 ** 18)))
            for t in drawn_beats(chance, q, m):
                self.check_beat(q, m, hand, t, source)

    def test_each_tree_once_in_q_beats(self):
        chance = random.Random(33)
        for q, source, hand in drawn(33, 120):
            start = chance.choice((0, chance.randrange(2 * 10 ** 18)))
            turns = [tree_at(q, hand, start + more, source=source) for more in range(q)]
            self.assertEqual(sorted(turns), list(range(q)), (q, hand, source, start))


class Asking(unittest.TestCase):
    def test_by_places_and_by_names(self):
        for t in (0, 3, 6, 9, 40):
            check_asking(self, tree_at, {"q": 4, "hand": 13, "t": t}, source=6)
            check_asking(self, heard, {"q": 4, "m": 9, "hand": 13, "t": t}, source=6)
            check_asking(self, told, {"q": 4, "m": 9, "hand": 13, "t": t}, source=6)

    def test_asked_again_the_same(self):
        for ask in (heard, told):
            first = ask(6, 50, 37, 44, source=11)
            ask(6, 50, 12, 45, source=3)
            same(self, ask(6, 50, 37, 44, source=11), first, ask.__name__)

    def test_few_steps(self):
        everyone = 2 ** 60 - 1
        for source in (0, everyone, 2 ** 59 + 5):
            for hand in (source, source ^ 2 ** 30, everyone ^ source, everyone):
                for t in (0, 10 ** 18, 2 * 10 ** 18 - 7):
                    counted(lambda: tree_at(60, hand, t, source=source), 3000)
                    counted(lambda: heard(60, 10 ** 18, hand, t, source=source), 3000)
                    counted(lambda: told(60, 10 ** 18, hand, t, source=source), 3000)

    def test_somewhat_beyond_the_limits_raises_nothing(self):
        for hand in (0, 2 ** 63, 2 ** 64 - 1, 2 ** 64):
            for t in (0, 63, 10 ** 20):
                tree_at(64, hand, t)
                heard(64, 10 ** 20, hand, t)
                told(64, 10 ** 20, hand, t, source=2 ** 62)


if __name__ == "__main__":
    unittest.main()
