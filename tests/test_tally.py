import random
import unittest

from beatferry.errors import BadNumbers, Early, Ended
from beatferry.tally import Tally
from helper import first_hearings, mutants, oddities, same

GREAT = 999999937


def drawn_numbers(chance, q, p, m):
    return tuple(tuple(chance.randrange(p) for _ in range(m)) for _ in range(2 ** q))


def written_givings(q, m, source):
    """By beat u the (teller, hearer, letter), by the walk of point 7 turned round."""
    beats = [[] for _ in range(m - 1 + q)]
    for (hand, letter), (t, teller) in first_hearings(q, m, source).items():
        beats[m - 2 + q - t].append((hand, teller, letter))
    return beats


def written_are_numbers(q, p, thing):
    if type(thing) is not tuple or len(thing) != 2 ** q:
        return False
    if any(type(own) is not tuple or not 1 <= len(own) <= 40 for own in thing):
        return False
    if len({len(own) for own in thing}) != 1:
        return False
    return all(type(one) is int and 0 <= one <= p - 1 for own in thing for one in own)


class ByHand(unittest.TestCase):
    def test_one_bit(self):
        tally = Tally(1, 7, ((1, 2), (3, 6)))
        same(self, [tally.beat(), len(tally)], [0, 2])
        same(self, [tally.part(0, 0), tally.part(0, 1), tally.part(1, 0), tally.part(1, 1)], [1, 2, 3, 6])
        same(self, tally.step(), None)
        same(self, [tally.beat(), len(tally)], [1, 1])
        same(self, [tally.part(0, 0), tally.part(0, 1), tally.part(1, 0), tally.part(1, 1)], [1, 1, 3, 6])
        same(self, tally.step(), None)
        same(self, [tally.beat(), len(tally)], [2, 0])
        same(self, tally.sums(), (4, 1))
        same(self, [tally.part(1, 0), tally.part(1, 1)], [3, 6])

    def test_two_bits(self):
        # At the beats 3 tells 1 and 1 tells 3; 1 tells 0 and 3 tells 2 and 2 tells 3; and so on, as in test_back.
        tally = Tally(2, 101, ((1, 10, 50), (2, 20, 60), (3, 30, 70), (4, 40, 80)))
        tally.step()
        same(self, [tally.part(hand, 2) for hand in range(4)], [19, 39, 70, 80])
        same(self, [tally.part(hand, 1) for hand in range(4)], [10, 20, 30, 60])
        tally.step()
        same(self, [tally.part(hand, 2) for hand in range(4)], [58, 39, 70, 80])
        same(self, [tally.part(hand, 1) for hand in range(4)], [10, 20, 90, 60])
        same(self, [tally.part(hand, 0) for hand in range(4)], [1, 2, 3, 7])
        tally.step()
        tally.step()
        same(self, tally.sums(), (10, 100, 58))


class StepByStep(unittest.TestCase):
    def check(self, q, p, m, source, numbers):
        tally = Tally(q, p, numbers, source=source)
        want = [list(own) for own in numbers]
        beats = written_givings(q, m, source)
        for u in range(m - 1 + q):
            self.check_amid(tally, u, want, (q, p, m, source))
            before = [list(own) for own in want]
            for teller, hearer, i in beats[u]:
                want[hearer][i] = (want[hearer][i] + before[teller][i]) % p
            same(self, tally.step(), None)
        self.check_behind(tally, want, (q, p, m, source))
        same(self, tally.sums(), tuple(sum(own[i] for own in numbers) % p for i in range(m)), q, p, m, source)

    def check_amid(self, tally, u, want, about):
        q, _, m, _ = about
        lack = m - 1 + q - u
        same(self, [tally.beat(), len(tally)], [u, lack], *about)
        with self.assertRaises(Early) as caught:
            tally.sums()
        same(self, caught.exception.beats, lack, *about)
        # Refused and asked, it is as it was.
        same(self, [tally.beat(), len(tally)], [u, lack], *about)
        for hand, own in enumerate(want):
            same(self, [tally.part(hand, i) for i in range(m)], own, u, *about)

    def check_behind(self, tally, want, about):
        q, _, m, source = about
        for _ in range(3):
            same(self, [tally.beat(), len(tally)], [m - 1 + q, 0], *about)
            for hand, own in enumerate(want):
                same(self, [tally.part(hand, i) for i in range(m)], own, *about)
            same(self, tally.sums(), tuple(want[source]), *about)
            with self.assertRaises(Ended):
                tally.step()

    def test_every_small(self):
        chance = random.Random(171)
        for q in range(1, 4):
            for source in range(2 ** q):
                for m in (1, 2, 3, q + 1, 2 * q + 1):
                    p = chance.choice((7, 101, GREAT))
                    self.check(q, p, m, source, drawn_numbers(chance, q, p, m))

    def test_more_bits(self):
        chance = random.Random(172)
        for q, p, m, source in ((4, 5, 1, 9), (4, 5, 11, 0), (5, GREAT, 8, 31), (6, 7, 3, 41), (6, GREAT, 40, 22)):
            self.check(q, p, m, source, drawn_numbers(chance, q, p, m))

    def test_the_greatest_numbers(self):
        self.check(3, 5, 4, 2, ((4,) * 4,) * 8)
        self.check(1, 2, 1, 1, ((1,), (1,)))
        self.check(2, 3, 2, 0, ((0, 0),) * 4)

    def test_two_go_each_on_its_own(self):
        numbers = drawn_numbers(random.Random(173), 3, 11, 5)
        one, other = Tally(3, 11, numbers), Tally(3, 11, numbers)
        for _ in range(7):
            one.step()
        same(self, [one.beat(), other.beat()], [7, 0])
        same(self, [other.part(hand, i) for hand in range(8) for i in range(5)], [n for own in numbers for n in own])
        same(self, one.sums(), tuple(sum(own[i] for own in numbers) % 11 for i in range(5)))


class Refused(unittest.TestCase):
    def refused(self, q, p, thing, source=0):
        before = repr(thing)
        with self.assertRaises(BadNumbers) as caught:
            Tally(q, p, thing, source=source)
        self.assertIs(caught.exception.thing, thing)
        self.assertEqual(repr(thing), before)

    def check(self, q, p, thing):
        if written_are_numbers(q, p, thing):
            same(self, len(Tally(q, p, thing)), len(thing[0]) - 1 + q)
        else:
            self.refused(q, p, thing)

    def test_by_hand(self):
        for thing in (
                (), ((),), ((), ()), ((1,),), ((1,), (2,), (3,)), ((1,), (2, 3)), ((1, 2), (3,)), ((1,), ()),
                ((), (1,)), [(1,), (2,)], ((1,), [2]), ([1], (2,)), ((1,), (7,)), ((-1,), (2,)), ((True,), (2,)),
                ((1,), (None,)), ((1,), ("2",)), (1, 2), ("1", "2"), None, 0, True, "((1,), (2,))", {0: (1,), 1: (2,)},
                ((1,), ((2,),)), ((1,), {0: 2})):
            self.refused(1, 7, thing)
        same(self, len(Tally(1, 7, ((0,), (6,)))), 1)

    def test_from_one_to_forty_letters(self):
        for q in (1, 3, 6):
            for m in range(0, 45):
                self.check(q, 7, ((3,) * m,) * 2 ** q)

    def test_as_many_as_hands(self):
        for q in range(1, 7):
            for many in {0, 1, 2, 2 ** q - 1, 2 ** q, 2 ** q + 1, 2 * 2 ** q, 64}:
                self.check(q, 7, ((3, 1),) * many)

    def test_mutants(self):
        chance = random.Random(174)
        for q, p, m in ((1, 2, 1), (1, 7, 3), (2, 5, 2), (3, 5, 1)):
            others = [None, True, False, "1", (), [], {}, -1, 0, p - 1, p, (1,), (0,) * m, 10 ** 30]
            for thing in mutants(drawn_numbers(chance, q, p, m), others):
                self.check(q, p, thing)

    def test_of_anything(self):
        for q in (1, 2, 6):
            for odd in oddities():
                for thing in (
                        odd, (odd,) * 2 ** q, ((odd,),) * 2 ** q, [odd] * 2 ** q, ((1, odd),) * 2 ** q,
                        ((1,),) * (2 ** q - 1) + (odd,), (odd,) + ((1,),) * (2 ** q - 1)):
                    self.check(q, 7, thing)


class Alike(unittest.TestCase):
    def equal(self, one, other, want):
        same(self, one == other, want)
        same(self, other == one, want)
        same(self, one != other, not want)
        same(self, other != one, not want)

    def test_as_far_or_not(self):
        numbers = ((1, 2), (3, 4), (5, 6), (0, 1))
        one, other = Tally(2, 7, numbers), Tally(2, 7, numbers, source=0)
        self.equal(one, one, True)
        for _ in range(3):
            self.equal(one, other, True)
            one.step()
            self.equal(one, other, False)
            other.step()
        self.equal(one, other, True)

    def test_of_the_same_or_not(self):
        numbers = ((0, 0), (0, 0), (0, 0), (0, 0))
        one = Tally(2, 7, numbers)
        for other in (
                Tally(2, 11, numbers), Tally(2, 7, numbers, source=1), Tally(2, 7, ((0,),) * 4),
                Tally(2, 7, ((0, 0), (0, 0), (0, 0), (0, 1))), Tally(1, 7, ((0, 0),) * 2), Tally(3, 7, ((0, 0),) * 8)):
            self.equal(one, other, False)
        # Parts that are the same now, of numbers that weren't.
        first, second = Tally(1, 7, ((1,), (0,))), Tally(1, 7, ((0,), (1,)), source=1)
        first.step()
        second.step()
        self.equal(first, second, False)

    def test_with_something_else(self):
        numbers = ((1,), (2,))
        tally = Tally(1, 7, numbers)
        for thing in (*oddities(), numbers, (1, 7, numbers), object()):
            self.equal(tally, thing, False)
        tally.step()
        for thing in (*oddities(), numbers, (3,), object()):
            self.equal(tally, thing, False)


class Asking(unittest.TestCase):
    def test_by_places_and_by_names(self):
        numbers = drawn_numbers(random.Random(175), 2, 7, 3)
        for source in (0, 2):
            tallies = [
                Tally(2, 7, numbers, source=source), Tally(q=2, p=7, numbers=numbers, source=source),
                Tally(source=source, numbers=numbers, p=7, q=2), Tally(2, 7, numbers=numbers, source=source)]
            for tally in tallies:
                self.assertTrue(tally == tallies[0])
        self.assertTrue(Tally(2, 7, numbers) == Tally(2, 7, numbers, source=0))
        with self.assertRaises(TypeError):
            Tally(2, 7, numbers, 0)
        tally = Tally(2, 7, numbers)
        tally.step()
        for hand in range(4):
            for i in range(3):
                same(self, tally.part(hand=hand, i=i), tally.part(hand, i))
                same(self, tally.part(i=i, hand=hand), tally.part(hand, i))

    def test_the_methods_are_its_own(self):
        for name in ("__init__", "__eq__", "__len__", "step", "beat", "part", "sums"):
            self.assertIn(name, vars(Tally))

    def test_somewhat_beyond_the_limits_raises_nothing(self):
        tally = Tally(7, 7, ((1, 2),) * 128)
        while len(tally):
            tally.step()
        same(self, tally.sums(), (128 % 7, 256 % 7))


if __name__ == "__main__":
    unittest.main()
