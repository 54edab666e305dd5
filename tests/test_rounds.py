import random
import unittest

from beatferry.rounds import arc, bits, from_bits, last_bit, next_bit, round_bits
from helper import counted, drawn_hand, drawn_questions, same


def written_order(q, j):
    return list(range(j, q)) + list(range(j))


def written_bits(hand, order):
    return tuple(k for k in order if hand // 2 ** k % 2 == 1)


class Bits(unittest.TestCase):
    def test_by_hand(self):
        same(self, bits(0), ())
        same(self, bits(1), (0,))
        same(self, bits(2), (1,))
        same(self, bits(13), (0, 2, 3))
        same(self, bits(2 ** 59), (59,))
        same(self, bits(2 ** 59 + 6), (1, 2, 59))
        same(self, bits(hand=10), (1, 3))

    def test_one_bit_and_all_bits(self):
        for q in range(1, 61):
            same(self, bits(2 ** (q - 1)), (q - 1,))
            same(self, bits(2 ** q - 1), tuple(range(q)))

    def test_small_and_drawn(self):
        for hand in range(600):
            same(self, bits(hand), written_bits(hand, range(60)), hand)
        for q, hand, _ in drawn_questions(1, 600):
            same(self, bits(hand), written_bits(hand, range(q)), hand)


class FromBits(unittest.TestCase):
    def test_by_hand(self):
        same(self, from_bits(()), 0)
        same(self, from_bits((0,)), 1)
        same(self, from_bits((3, 0, 2)), 13)
        same(self, from_bits((1, 1)), 2)
        same(self, from_bits((4, 0, 4, 0, 0)), 17)
        same(self, from_bits((59,)), 2 ** 59)
        same(self, from_bits((59, 0, 59)), 2 ** 59 + 1)
        same(self, from_bits(some=(1, 3)), 10)

    def test_all_bits(self):
        for q in range(1, 61):
            same(self, from_bits(tuple(range(q))), 2 ** q - 1, q)
            same(self, from_bits(tuple(reversed(range(q)))), 2 ** q - 1, q)

    def test_any_order_with_alike_ones(self):
        chance = random.Random(2)
        for q, hand, _ in drawn_questions(2, 600):
            some = [k for k in range(q) if hand // 2 ** k % 2 == 1]
            some += [k for k in some if chance.randrange(2)] * chance.randrange(3)
            chance.shuffle(some)
            some = tuple(some)
            same(self, from_bits(some), hand, some)

    def test_there_and_back(self):
        for hand in range(600):
            same(self, from_bits(bits(hand)), hand)


class Arc(unittest.TestCase):
    def test_by_hand(self):
        same(self, arc(1, 0, 0), 0)
        same(self, arc(5, 1, 3), 2)
        same(self, arc(5, 3, 1), 3)
        same(self, arc(5, 4, 0), 1)
        same(self, arc(5, 0, 4), 4)
        same(self, arc(60, 59, 58), 59)
        same(self, arc(60, 0, 59), 59)
        same(self, arc(q=5, j=3, k=3), 0)

    def test_every_small_and_great(self):
        for q in (*range(1, 12), 31, 59, 60):
            for j in range(q):
                order = written_order(q, j)
                for k in range(q):
                    same(self, arc(q, j, k), order.index(k), q, j, k)


class RoundBits(unittest.TestCase):
    def test_by_hand(self):
        same(self, round_bits(4, 13, 0), (0, 2, 3))
        same(self, round_bits(4, 13, 1), (2, 3, 0))
        same(self, round_bits(4, 13, 2), (2, 3, 0))
        same(self, round_bits(4, 13, 3), (3, 0, 2))
        same(self, round_bits(4, 0, 2), ())
        same(self, round_bits(1, 1, 0), (0,))
        same(self, round_bits(q=60, hand=2 ** 59 + 3, j=1), (1, 59, 0))

    def test_every_small(self):
        for q in range(1, 8):
            for hand in range(2 ** q):
                for j in range(q):
                    want = written_bits(hand, written_order(q, j))
                    same(self, round_bits(q, hand, j), want, q, hand, j)

    def test_drawn(self):
        for q, hand, j in drawn_questions(3, 900):
            want = written_bits(hand, written_order(q, j))
            same(self, round_bits(q, hand, j), want, q, hand, j)

    def test_all_bits(self):
        for q in (1, 2, 31, 60):
            for j in range(q):
                same(self, round_bits(q, 2 ** q - 1, j), tuple(written_order(q, j)), q, j)


class LastAndNext(unittest.TestCase):
    def test_by_hand(self):
        same(self, last_bit(4, 13, 0), 3)
        same(self, last_bit(4, 13, 1), 0)
        same(self, last_bit(4, 13, 3), 2)
        same(self, last_bit(q=5, hand=4, j=3), 2)
        same(self, next_bit(4, 13, 0), 2)
        same(self, next_bit(4, 13, 1), 2)
        same(self, next_bit(4, 13, 2), 3)
        same(self, next_bit(4, 13, 3), 0)
        same(self, next_bit(q=4, hand=12, k=3), 2)

    def test_hand_0(self):
        for q in range(1, 61):
            for j in range(q):
                same(self, last_bit(q, 0, j), None, q, j)
                same(self, next_bit(q, 0, j), None, q, j)

    def test_a_hand_of_one_bit(self):
        for q in range(1, 61):
            for k in range(q):
                for j in {0, k, (k + 1) % q, q - 1}:
                    same(self, last_bit(q, 2 ** k, j), k, q, k, j)
                    same(self, next_bit(q, 2 ** k, j), k, q, k, j)

    def test_every_small(self):
        for q in range(1, 8):
            for hand in range(1, 2 ** q):
                for j in range(q):
                    self.check(q, hand, j)

    def test_drawn(self):
        for q, hand, j in drawn_questions(4, 900):
            if hand:
                self.check(q, hand, j)
                self.check(q, hand, q - 1)

    def check(self, q, hand, j):
        last = written_bits(hand, written_order(q, j))[-1]
        same(self, last_bit(q, hand, j), last, q, hand, j)
        behind = 0 if j == q - 1 else j + 1
        after = written_bits(hand, written_order(q, behind))[0]
        same(self, next_bit(q, hand, j), after, q, hand, j)


class Great(unittest.TestCase):
    def test_few_steps(self):
        chance = random.Random(5)
        for hand in (0, 2 ** 59, 2 ** 60 - 1, drawn_hand(chance, 60)):
            for j in (0, 17, 59):
                counted(lambda: bits(hand))
                counted(lambda: from_bits(tuple(range(60))))
                counted(lambda: arc(60, 59, j))
                counted(lambda: round_bits(60, hand, j))
                counted(lambda: last_bit(60, hand, j))
                counted(lambda: next_bit(60, hand, j))

    def test_somewhat_beyond_60_bits_raises_nothing(self):
        hand = 2 ** 63 + 2 ** 20
        bits(hand)
        from_bits((63, 20))
        arc(64, 63, 2)
        round_bits(64, hand, 21)
        last_bit(64, hand, 21)
        next_bit(64, hand, 63)


if __name__ == "__main__":
    unittest.main()
