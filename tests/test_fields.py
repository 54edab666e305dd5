import random
import unittest

from beatferry.errors import NoInverse, NotSo
from beatferry.fields import inverse, is_prime
from helper import check_asking, counted, same


def sieved(most):
    """The primes below most."""
    prime = [True] * most
    prime[0] = prime[1] = False
    for n in range(2, most):
        if prime[n]:
            for times in range(n * n, most, n):
                prime[times] = False
    return [n for n in range(most) if prime[n]]


PRIMES = sieved(31700)


def divided_out(n):
    """Whether no prime up to its root divides n, below 10 ** 9."""
    if n < 2:
        return False
    for prime in PRIMES:
        if prime * prime > n:
            break
        if n % prime == 0:
            return False
    return True


class IsPrime(unittest.TestCase):
    def test_by_hand(self):
        for n in (2, 3, 5, 7, 11, 13, 97, 7919, 104729, 998244353, 999999929, 999999937):
            same(self, is_prime(n), True, n)
        for n in (4, 6, 8, 9, 10, 15, 21, 25, 49, 91, 121, 10 ** 9 - 1, 10 ** 9 - 3, 2 ** 29, 3 ** 18):
            same(self, is_prime(n), False, n)

    def test_below_2(self):
        for n in (1, 0, -1, -2, -3, -5, -7, -11, -999999937, -10 ** 30):
            same(self, is_prime(n), False, n)

    def test_every_small(self):
        primes = set(PRIMES)
        for n in range(20000):
            same(self, is_prime(n), n in primes, n)

    def test_squares_and_products_of_great_primes(self):
        great = [prime for prime in PRIMES if 31000 < prime and prime * prime < 10 ** 9]
        self.assertTrue(great)
        for one in great:
            same(self, is_prime(one * one), False, one)
            for other in great[::7]:
                same(self, is_prime(one * other), False, one, other)
        for few in PRIMES[:40]:
            n = 10 ** 9 // few
            while not divided_out(n):
                n -= 1
            same(self, is_prime(few * n), False, few, n)

    def test_numbers_that_look_like_primes(self):
        # Each passes for some bases as a prime does.
        for n in (
                561, 1105, 1729, 2047, 2821, 6601, 8911, 9080191, 1373653, 4759123, 25326001, 161304001, 1024651,
                178482151, 746331041, 2284453, 960946321, 314821, 1530787, 294409, 56052361, 118901521, 172947529,
                3277, 4033, 8321, 121, 781, 25):
            same(self, is_prime(n), divided_out(n), n)

    def test_near_the_greatest(self):
        for n in range(10 ** 9 - 400, 10 ** 9):
            same(self, is_prime(n), divided_out(n), n)

    def test_drawn(self):
        chance = random.Random(61)
        for _ in range(1500):
            n = chance.randrange(10 ** chance.randrange(2, 10))
            same(self, is_prime(n), divided_out(n), n)


class Inverse(unittest.TestCase):
    def test_by_hand(self):
        same(self, inverse(7, 3), 5)
        same(self, inverse(7, 1), 1)
        same(self, inverse(7, 6), 6)
        same(self, inverse(7, -4), 5)
        same(self, inverse(7, 10), 5)
        same(self, inverse(2, 1), 1)
        same(self, inverse(2, -7), 1)
        same(self, inverse(3, 2), 2)
        same(self, inverse(999999937, 2), 499999969)

    def test_every_small(self):
        for p in PRIMES[:25]:
            for n in range(-2 * p, 2 * p):
                if n % p:
                    got = inverse(p, n)
                    same(self, got in range(1, p), True, p, n)
                    same(self, got * n % p, 1, p, n)
                    same(self, type(got), int)

    def test_drawn_of_any_size(self):
        chance = random.Random(62)
        for _ in range(600):
            p = chance.choice((61, 7919, 998244353, 999999937, chance.choice(PRIMES)))
            n = chance.randrange(-10 ** chance.randrange(1, 40), 10 ** chance.randrange(1, 40))
            if n % p:
                got = inverse(p, n)
                self.assertTrue(0 < got < p, (p, n, got))
                self.assertEqual(got * n % p, 1, (p, n))

    def test_refused(self):
        for p in (2, 3, 61, 999999937):
            for n in (0, p, -p, 5 * p, -10 ** 30 * p):
                with self.assertRaises(NoInverse) as caught:
                    inverse(p, n)
                same(self, caught.exception.number, n, p, n)
                self.assertIsInstance(caught.exception, NotSo)


class Asking(unittest.TestCase):
    def test_by_places_and_by_names(self):
        same(self, is_prime(n=91), False)
        same(self, is_prime(n=97), True)
        check_asking(self, inverse, {"p": 61, "n": -7})
        with self.assertRaises(NoInverse) as caught:
            inverse(n=-14, p=7)
        same(self, caught.exception.number, -14)

    def test_few_steps(self):
        for n in (999999937, 10 ** 9 - 1, 31607 * 31607, 536870909):
            counted(lambda: is_prime(n), 3000)
        counted(lambda: inverse(999999937, 10 ** 40), 3000)


if __name__ == "__main__":
    unittest.main()
