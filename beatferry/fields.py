"""Numbers of the field of a prime."""

from beatferry.errors import NoInverse

# No number below 3 * 10 ** 9 but primes passes for all of these.
BASES = (2, 3, 5, 7)


def is_prime(n):
    """Whether n, below 10 ** 9, is a prime."""
    if n < 2:
        return False
    for base in BASES:
        if n % base == 0:
            return n == base
    return all([passes(n, base) for base in BASES])


def passes(n, base):
    """Whether the base's powers come to 1 by odd n as they do by a prime."""
    odd = n - 1
    doublings = 0
    while odd % 2 == 0:
        odd //= 2
        doublings += 1
    power = raised(n, base, odd)
    if power == 1:
        return True
    # By a prime only 1 and n - 1 have the square 1, so the way to 1 leads by n - 1.
    for doubling in range(doublings):
        if power == n - 1:
            return True
        power = power * power % n
    return False


def raised(n, base, exponent):
    """The base's power, its rest by n."""
    power = 1
    square = base % n
    left = exponent
    while left > 0:
        if left % 2 == 1:
            power = power * square % n
        square = square * square % n
        left //= 2
    return power


def inverse(p, n):
    """The number of the field whose product with n is 1."""
    if n % p == 0:
        raise NoInverse(n)
    # By a prime each such number's power p - 1 is 1.
    return raised(p, n, p - 2)
