import itertools
import random
import unittest

from beatferry.apart import shows_apart, spoilt
from beatferry.trees import way
from helper import check_asking, counted, drawn, drawn_hand, mutants, nested, oddities, same, small, written_way


def written_spoilt(q, hand, lot, source):
    return tuple(j for j in range(q) if set(written_way(q, hand, j, source)[1:-1]) & set(lot))


def written_shows_apart(q, hand, thing, source):
    """As point 6 words it, one thing behind the other."""
    if type(thing) is not tuple or len(thing) != q:
        return False
    for hands in thing:
        if type(hands) is not tuple or any(type(one) is not int or not 0 <= one <= 2 ** q - 1 for one in hands):
            return False
        if not hands or hands[0] != source or hands[-1] != hand:
            return False
        if any(bin(a ^ b).count("1") != 1 for a, b in zip(hands, hands[1:])):
            return False
        if any(hands.count(one) > 1 for one in hands):
            return False
    for one, other in itertools.combinations(thing, 2):
        if one == other or set(one[1:-1]) & set(other[1:-1]):
            return False
    return True


def ways(q, hand, source):
    return tuple(way(q, hand, j, source=source) for j in range(q))


class Spoilt(unittest.TestCase):
    def check(self, q, hand, lot, source):
        got = spoilt(q, hand, lot, source=source)
        same(self, got, written_spoilt(q, hand, lot, source), q, hand, lot, source)

    def test_by_hand(self):
        # The ways from 0 to 13: (0, 1, 5, 13), (0, 2, 6, 14, 15, 13), (0, 4, 12, 13), (0, 8, 9, 13).
        same(self, spoilt(4, 13, ()), ())
        same(self, spoilt(4, 13, (5,)), (0,))
        same(self, spoilt(4, 13, (2, 6, 15)), (1,))
        same(self, spoilt(4, 13, (6, 9, 12)), (1, 2, 3))
        same(self, spoilt(4, 13, (1, 2, 4, 8)), (0, 1, 2, 3))
        same(self, spoilt(4, 13, (3, 7, 10, 11)), ())

    def test_the_ends_spoil_nothing(self):
        same(self, spoilt(4, 13, (0, 13)), ())
        same(self, spoilt(4, 13, (0, 8, 13)), (3,))
        same(self, spoilt(3, 6, (5, 6), source=5), ())
        for q, source, hand in small(4):
            same(self, spoilt(q, hand, tuple(sorted({source, hand})), source=source), (), q, hand, source)

    def test_there_and_back(self):
        same(self, spoilt(4, 0, (0, 1, 3, 8)), (0, 3))
        same(self, spoilt(3, 5, (4, 5, 6, 7), source=5), (0, 1))
        same(self, spoilt(1, 0, (1,)), (0,))
        same(self, spoilt(1, 1, (0,), source=1), (0,))
        same(self, spoilt(1, 1, (0, 1)), ())

    def test_all_hands(self):
        # A hand across hears by one way straight; all others have somebody between.
        for q, source, hand in small(5):
            straight = [j for j in range(q) if hand ^ source == 2 ** j]
            want = tuple(j for j in range(q) if j not in straight)
            same(self, spoilt(q, hand, tuple(range(2 ** q)), source=source), want, q, hand, source)

    def test_every_small_lot(self):
        for q, source, hand in small(3):
            for size in range(6):
                for lot in itertools.combinations(range(2 ** q), size):
                    self.check(q, hand, lot, source)

    def test_every_small_pair(self):
        for q, source, hand in small(4):
            for size in (1, 2):
                for lot in itertools.combinations(range(2 ** q), size):
                    self.check(q, hand, lot, source)

    def test_every_single_hand_of_five_bits(self):
        for source in (0, 9, 31):
            for hand in range(32):
                for other in range(32):
                    self.check(5, hand, (other,), source)

    def test_drawn(self):
        chance = random.Random(21)
        for q, source, hand in drawn(21, 1200):
            near = [one for j in range(q) for one in written_way(q, hand, j, source)]
            some = {chance.choice(near) for _ in range(chance.randrange(6))}
            some |= {one ^ 2 ** chance.randrange(q) for one in some if chance.randrange(3) == 0}
            some |= {drawn_hand(chance, q) for _ in range(chance.randrange(3))}
            self.check(q, hand, tuple(sorted(some)), source)

    def test_each_hand_between_spoils_its_tree_alone(self):
        for q, source, hand in drawn(22, 60):
            for j in range(q):
                for other in way(q, hand, j, source=source)[1:-1]:
                    same(self, spoilt(q, hand, (other,), source=source), (j,), q, hand, source, other)


class Taken(unittest.TestCase):
    def test_by_hand(self):
        same(self, shows_apart(2, 3, ((0, 1, 3), (0, 2, 3))), True)
        same(self, shows_apart(2, 3, ((0, 2, 3), (0, 1, 3))), True)
        same(self, shows_apart(2, 1, ((0, 1), (0, 2, 3, 1))), True)
        same(self, shows_apart(2, 1, ((2, 3, 1), (2, 0, 1)), source=2), True)
        # Not the ferry's own ways, and one longer than any of those.
        same(self, shows_apart(3, 7, ((0, 2, 3, 7), (0, 1, 5, 7), (0, 4, 6, 7))), True)
        same(self, shows_apart(3, 1, ((0, 1), (0, 2, 3, 1), (0, 4, 6, 7, 5, 1))), True)

    def test_one_bit(self):
        same(self, shows_apart(1, 1, ((0, 1),)), True)
        same(self, shows_apart(1, 0, ((1, 0),), source=1), True)
        for thing in ((), ((0,),), ((1,),), ((1, 0),), ((0, 1, 0, 1),), ((0, 1), (0, 1)), ((0, 1, 0),), (0, 1)):
            same(self, shows_apart(1, 1, thing), False, thing)

    def test_the_ferry_s_ways_in_any_order(self):
        for q, source, hand in small(4):
            if hand != source:
                for thing in itertools.permutations(ways(q, hand, source)):
                    same(self, shows_apart(q, hand, thing, source=source), True, q, hand, source, thing)

    def test_drawn(self):
        chance = random.Random(23)
        for q, source, hand in drawn(23, 400):
            if hand != source:
                thing = list(ways(q, hand, source))
                chance.shuffle(thing)
                same(self, shows_apart(q, hand, tuple(thing), source=source), True, q, hand, source)


class NotTaken(unittest.TestCase):
    def refused(self, q, hand, thing, source=0):
        same(self, shows_apart(q, hand, thing, source=source), False, q, hand, thing, source)

    def test_by_hand(self):
        self.refused(2, 3, ((0, 1, 3), (0, 1, 3)))
        self.refused(2, 1, ((0, 1), (0, 1)))
        self.refused(2, 3, ((0, 1, 3), (0, 2, 0, 2, 3)))
        self.refused(2, 3, ((0, 1, 3), (0, 3)))
        self.refused(2, 3, ((0, 1, 3), (0, 0, 2, 3)))
        self.refused(2, 3, ((0, 1, 3), (2, 3)))
        self.refused(2, 3, ((0, 1, 3), (0, 2)))
        self.refused(2, 3, ((0, 1, 3), ()))
        self.refused(2, 3, ((0, 1, 3),))
        self.refused(2, 3, ((0, 1, 3), (0, 2, 3), (0, 2, 3)))
        self.refused(2, 3, [(0, 1, 3), (0, 2, 3)])
        self.refused(2, 3, ((0, 1, 3), [0, 2, 3]))
        self.refused(2, 3, ((0, True, 3), (0, 2, 3)))
        self.refused(2, 3, ((False, 1, 3), (0, 2, 3)))
        self.refused(2, 3, ((0, 1, 3), (0, 4, 5, 7, 3)))
        self.refused(2, 3, ((0, 1, 3), (0, -4, -1, 3)))
        self.refused(2, 3, ((0, 1, 3), (0, 2, 3)), source=1)
        self.refused(3, 7, ((0, 1, 3, 7), (0, 2, 3, 7), (0, 4, 5, 7)))
        self.refused(3, 7, ((0, 1, 3, 7), (0, 2, 6, 7), (0, 4, 5, 1, 3, 7)))

    def test_a_hand_in_two_ways(self):
        # Each such way is right in itself, so only what they have in common is wrong.
        self.refused(3, 3, ((0, 1, 3), (0, 2, 3), (0, 4, 5, 1, 3)))
        self.refused(3, 3, ((0, 1, 3), (0, 4, 5, 7, 3), (0, 2, 6, 7, 3)))

    def test_one_thing_otherwise(self):
        for q, source, hand in small(3):
            if hand == source:
                continue
            right = ways(q, hand, source)
            for thing in mutants(right, [None, True, "1", (), [], {}, -1, 2 ** q, hand, source, 10 ** 30]):
                want = written_shows_apart(q, hand, thing, source)
                same(self, shows_apart(q, hand, thing, source=source), want, q, hand, source, thing)

    def test_drawn(self):
        chance = random.Random(24)
        for q, source, hand in drawn(24, 120):
            if hand == source or q < 2:
                continue
            right = ways(q, hand, source)
            at = chance.randrange(q)
            one = right[at]
            place = chance.randrange(len(one))
            twice = right[:at] + (right[at - 1],) + right[at + 1:]
            others = [right[:at] + right[at + 1:], right + (one,), list(right), twice]
            for changed in (
                    one[:place] + one[place + 1:], one[:place] + one[place:place + 1] + one[place:], one[1:], one[:-1],
                    list(one), one[:place] + (str(one[place]),) + one[place + 1:],
                    one[:place] + (one[place] + 2 ** q,) + one[place + 1:], one[:place] + (-1,) + one[place + 1:],
                    one[:-1] + (one[-2] ^ 2 ** q, one[-1] ^ 2 ** q, one[-1]), one + one[-2:-1] + one[-1:]):
                others.append(right[:at] + (changed,) + right[at + 1:])
            for thing in others:
                self.refused(q, hand, thing, source)

    def test_of_anything(self):
        for q, source, hand in ((1, 0, 1), (2, 0, 3), (3, 5, 6), (30, 0, 1), (60, 2, 2 ** 60 - 1)):
            for thing in oddities():
                for whole in (thing, (thing,) * q, [thing] * q, ((source, thing, hand),) * q, ((thing,) * 3,) * q):
                    want = written_shows_apart(q, hand, whole, source)
                    same(self, shows_apart(q, hand, whole, source=source), want, q, hand, whole)

    def test_nested_where_a_hand_should_be(self):
        for make in (lambda inner: (inner,), lambda inner: [inner], lambda inner: {0: inner}):
            deep = nested(make, 28)
            self.refused(2, 3, ((0, deep, 3), (0, 2, 3)))
            self.refused(2, 3, (deep, (0, 2, 3)))


class Asking(unittest.TestCase):
    def test_by_places_and_by_names(self):
        check_asking(self, spoilt, {"q": 4, "hand": 13, "lot": (1, 6, 9, 12)}, source=3)
        check_asking(self, shows_apart, {"q": 2, "hand": 3, "thing": ((0, 1, 3), (0, 2, 3))}, source=1)
        check_asking(self, shows_apart, {"q": 2, "hand": 3, "thing": [(0, 1, 3), [0, 2, 3]]}, source=1)

    def test_few_steps(self):
        everyone = 2 ** 60 - 1
        for source in (0, everyone, 2 ** 59 + 5):
            for hand in (source ^ 2 ** 30, everyone ^ source, source ^ 1023):
                lot = tuple(sorted(source ^ 2 ** k for k in range(60)))
                counted(lambda: spoilt(60, hand, lot, source=source), 5000)
                if hand != source:
                    right = ways(60, hand, source)
                    same(self, counted(lambda: shows_apart(60, hand, right, source=source)), True)

    def test_somewhat_beyond_the_limits_raises_nothing(self):
        for lot in ((2 ** 63,), (2 ** 64,), (2 ** 65 + 1,), (-1,), (-2 ** 64, 3)):
            for hand in (5, 2 ** 64 - 1, 2 ** 64, 2 ** 65 + 3):
                spoilt(64, hand, lot)
                spoilt(2, hand % 8, lot, source=5)
        same(self, shows_apart(64, 1, ways(64, 1, 0)), True)
        same(self, shows_apart(2, 0, ((0, 1, 0), (0, 2, 0))), False)


if __name__ == "__main__":
    unittest.main()
