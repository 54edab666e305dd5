import random
import unittest

from beatferry.trees import crossed, delay, hearers, teller, way
from helper import counted, drawn, same, small, written_crossed, written_way

ASKED = (way, crossed, delay, teller, hearers)


def written_delay(q, hand, j, source):
    if hand // 2 ** j % 2 == source // 2 ** j % 2:
        return q
    order = list(range(j, q)) + list(range(j))
    return order.index(written_crossed(q, hand, j, source)[-1])


class ByHand(unittest.TestCase):
    def test_the_tree_s_bit_in_the_set(self):
        same(self, crossed(4, 13, 2), (2, 3, 0))
        same(self, way(4, 13, 2), (0, 4, 12, 13))
        same(self, delay(4, 13, 2), 2)
        same(self, teller(4, 13, 2), 12)
        same(self, hearers(4, 13, 2), (9, 15))

    def test_the_tree_s_bit_not_in_the_set(self):
        same(self, crossed(4, 13, 1), (1, 2, 3, 0, 1))
        same(self, way(4, 13, 1), (0, 2, 6, 14, 15, 13))
        same(self, delay(4, 13, 1), 4)
        same(self, teller(4, 13, 1), 15)
        same(self, hearers(4, 13, 1), ())

    def test_the_source_itself(self):
        same(self, crossed(4, 0, 3), (3, 3))
        same(self, way(4, 0, 3), (0, 8, 0))
        same(self, delay(4, 0, 3), 4)
        same(self, teller(4, 0, 3), 8)
        same(self, hearers(4, 0, 3), (8,))
        same(self, hearers(4, 8, 3), (0, 9, 10, 12))

    def test_another_source(self):
        same(self, crossed(3, 6, 0, source=5), (0, 1))
        same(self, way(3, 6, 0, source=5), (5, 4, 6))
        same(self, delay(3, 6, 0, source=5), 1)
        same(self, teller(3, 6, 0, source=5), 4)
        same(self, hearers(3, 6, 0, source=5), (2, 7))
        same(self, way(3, 5, 1, source=5), (5, 7, 5))
        same(self, hearers(3, 5, 1, source=5), (7,))
        same(self, hearers(3, 7, 1, source=5), (3, 5, 6))

    def test_one_bit(self):
        same(self, [crossed(1, 0, 0), crossed(1, 1, 0)], [(0, 0), (0,)])
        same(self, [way(1, 0, 0), way(1, 1, 0)], [(0, 1, 0), (0, 1)])
        same(self, [delay(1, 0, 0), delay(1, 1, 0)], [1, 0])
        same(self, [teller(1, 0, 0), teller(1, 1, 0)], [1, 0])
        same(self, [hearers(1, 0, 0), hearers(1, 1, 0)], [(1,), (0,)])
        same(self, [way(1, 0, 0, source=1), way(1, 1, 0, source=1)], [(1, 0), (1, 0, 1)])

    def test_great(self):
        hand = 2 ** 59 + 2
        same(self, crossed(60, hand, 59), (59, 1))
        same(self, delay(60, hand, 59), 2)
        same(self, way(60, hand, 1), (0, 2, hand))
        same(self, delay(60, hand, 1), 58)
        same(self, delay(60, hand, 0), 60)
        same(self, teller(60, hand, 0), hand + 1)
        same(self, hearers(60, hand, 1), (2 ** 59, hand + 1))
        same(self, hearers(60, 2 ** 60 - 1, 7), (2 ** 60 - 1 - 2 ** 7,))


class AsWritten(unittest.TestCase):
    def check(self, q, source, hand, j):
        asked = (q, hand, j, source)
        same(self, crossed(q, hand, j, source=source), written_crossed(*asked), *asked)
        same(self, way(q, hand, j, source=source), written_way(*asked), *asked)
        same(self, delay(q, hand, j, source=source), written_delay(*asked), *asked)
        same(self, teller(q, hand, j, source=source), written_way(*asked)[-2], *asked)

    def test_every_small(self):
        for q, source, hand in small(5):
            for j in range(q):
                self.check(q, source, hand, j)

    def test_drawn(self):
        chance = random.Random(11)
        for q, source, hand in drawn(11, 900):
            for j in {0, q - 1, chance.randrange(q), chance.randrange(q)}:
                self.check(q, source, hand, j)

    def test_hearers_are_all_whose_teller_it_is(self):
        for q in range(1, 6):
            for source in range(2 ** q):
                for j in range(q):
                    heard = {hand: [] for hand in range(2 ** q)}
                    for hand in range(2 ** q):
                        heard[written_way(q, hand, j, source)[-2]].append(hand)
                    for hand in range(2 ** q):
                        got = hearers(q, hand, j, source=source)
                        same(self, got, tuple(heard[hand]), q, hand, j, source)

    def test_hearers_drawn(self):
        # Only hands across can have it as their teller, so these are all there are to ask.
        chance = random.Random(12)
        for q, source, hand in drawn(12, 900):
            for j in {0, q - 1, chance.randrange(q)}:
                near = [hand ^ 2 ** k for k in range(q)]
                want = sorted(other for other in near if written_way(q, other, j, source)[-2] == hand)
                got = hearers(q, hand, j, source=source)
                same(self, got, tuple(want), q, hand, j, source)


class Together(unittest.TestCase):
    """What 3 (a) and (b) say of ways and trees, asked of the program alone."""

    def check(self, q, source, hand):
        ways = [way(q, hand, j, source=source) for j in range(q)]
        between = []
        for j, hands in enumerate(ways):
            self.check_way(q, source, hand, j, hands)
            between += hands[1:-1]
        if hand != source:
            # Apart: none between in two ways, none twice in one, neither end between.
            self.assertEqual(len(set(between)), len(between), (q, hand, source))
            self.assertFalse({hand, source} & set(between), (q, hand, source))
        # By turns: each tree comes to it by a bit of its own.
        lasts = sorted(crossed(q, hand, j, source=source)[-1] for j in range(q))
        self.assertEqual(lasts, list(range(q)), (q, hand, source))

    def check_way(self, q, source, hand, j, hands):
        about = (q, hand, j, source)
        by = crossed(q, hand, j, source=source)
        self.assertEqual((hands[0], hands[-1]), (source, hand), about)
        self.assertEqual(len(by) + 1, len(hands), about)
        self.assertEqual([a ^ b for a, b in zip(hands, hands[1:])], [2 ** k for k in by], about)
        told_by = teller(q, hand, j, source=source)
        self.assertEqual(told_by, hands[-2], about)
        self.assertIn(hand, hearers(q, told_by, j, source=source), about)
        late = delay(q, hand, j, source=source)
        self.assertEqual((j + late) % q, by[-1], about)
        if told_by != source:
            # The one who tells it has it by then, by a way that is the same but for its end.
            self.assertLess(delay(q, told_by, j, source=source), late, about)
            self.assertEqual(way(q, told_by, j, source=source), hands[:-1], about)

    def test_every_small(self):
        for q, source, hand in small(5):
            self.check(q, source, hand)

    def test_drawn(self):
        for q, source, hand in drawn(13, 300):
            self.check(q, source, hand)

    def test_each_hand_is_told_once_in_a_tree(self):
        for q in range(1, 6):
            for source in range(2 ** q):
                for j in range(q):
                    told = []
                    for hand in range(2 ** q):
                        some = hearers(q, hand, j, source=source)
                        self.assertEqual(list(some), sorted(set(some)))
                        told += some
                    self.assertEqual(sorted(told), list(range(2 ** q)), (q, source, j))


class Asking(unittest.TestCase):
    def test_source_left_out_is_0(self):
        for q in range(1, 5):
            for hand in range(2 ** q):
                for j in range(q):
                    for ask in ASKED:
                        same(self, ask(q, hand, j), ask(q, hand, j, source=0), ask.__name__, q, hand, j)

    def test_by_places_and_by_names(self):
        for q, source, hand in small(3):
            for j in range(q):
                for ask in ASKED:
                    want = ask(q, hand, j, source=source)
                    same(self, ask(source=source, j=j, hand=hand, q=q), want, ask.__name__)
                    same(self, ask(q, hand, j=j, source=source), want, ask.__name__)

    def test_source_by_its_name_alone(self):
        for ask in ASKED:
            with self.assertRaises(TypeError):
                ask(3, 5, 1, 2)

    def test_asked_again_the_same(self):
        for ask in ASKED:
            first = ask(6, 37, 4, source=11)
            ask(6, 12, 2, source=5)
            same(self, ask(6, 37, 4, source=11), first, ask.__name__)

    def test_few_steps(self):
        everyone = 2 ** 60 - 1
        for source in (0, everyone, 2 ** 59 + 5):
            for hand in (source, source ^ 2 ** 30, everyone ^ source, everyone):
                for j in (0, 30, 59):
                    for ask in ASKED:
                        counted(lambda: ask(60, hand, j, source=source))

    def test_somewhat_beyond_60_bits_raises_nothing(self):
        for ask in ASKED:
            for hand in (0, 2 ** 63, 2 ** 64 - 1, 2 ** 64):
                ask(64, hand, 63, source=2 ** 62 + 1)
                ask(64, hand, 64)


if __name__ == "__main__":
    unittest.main()
