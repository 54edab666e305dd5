import itertools
import random
import unittest

from beatferry.errors import NotSo, TooFew
from beatferry.rows import row_through, value, values, vanishing
from helper import check_asking, counted, same, written_value

FIELDS = (2, 3, 5, 7, 61, 67, 7919, 999999937)


def drawn_row(chance, p, k):
    if chance.randrange(4) == 0:
        return tuple(chance.choice((0, 0, 1, p - 1)) for _ in range(k))
    return tuple(chance.randrange(p) for _ in range(k))


class Value(unittest.TestCase):
    def test_by_hand(self):
        same(self, value(7, (5,), 3), 5)
        same(self, value(7, (1, 2, 3), 0), 1)
        same(self, value(7, (1, 2, 3), 1), 6)
        same(self, value(7, (1, 2, 3), 2), 3)
        same(self, value(7, (0, 0, 0), 4), 0)
        same(self, value(2, (1, 1), 1), 0)
        same(self, values(7, (1, 2, 3), 4), (6, 3, 6, 1))
        same(self, values(7, (1, 2, 3), 0), ())
        same(self, values(7, (4,), 2), (4, 4))
        same(self, values(2, (1, 1), 1), (0,))

    def test_as_written(self):
        chance = random.Random(71)
        for k in range(1, 61):
            for p in FIELDS:
                row = drawn_row(chance, p, k)
                for x in {0, 1, p - 1, chance.randrange(p), chance.randrange(p)}:
                    same(self, value(p, row, x), written_value(p, row, x), p, row, x)
                for many in {0, 1, min(60, p - 1), chance.randrange(min(61, p))}:
                    want = tuple(written_value(p, row, x) for x in range(1, many + 1))
                    same(self, values(p, row, many), want, p, row, many)


class RowThrough(unittest.TestCase):
    def test_by_hand(self):
        same(self, row_through(7, 1, ((3, 5),)), (5,))
        same(self, row_through(7, 2, ((0, 1), (1, 3))), (1, 2))
        same(self, row_through(7, 2, ((1, 3), (0, 1))), (1, 2))
        same(self, row_through(7, 3, ((1, 6), (2, 3), (3, 6))), (1, 2, 3))
        same(self, row_through(7, 3, ((1, 6), (2, 3), (3, 6), (4, 1), (0, 1))), (1, 2, 3))
        same(self, row_through(7, 3, ((1, 6), (2, 3), (3, 6), (4, 2))), None)
        same(self, row_through(7, 2, ((1, 6), (2, 3), (3, 6))), None)
        same(self, row_through(7, 1, ((1, 6), (2, 6), (3, 5))), None)
        # Shorter rows are filled up.
        same(self, row_through(7, 3, ((0, 4), (5, 4), (6, 4))), (4, 0, 0))
        same(self, row_through(7, 2, ((2, 0), (5, 0))), (0, 0))
        same(self, row_through(2, 2, ((1, 0), (0, 1))), (1, 1))

    def test_every_row_of_a_small_field(self):
        for p, k in ((2, 1), (2, 2), (3, 1), (3, 2), (3, 3), (5, 1), (5, 2)):
            rows = list(itertools.product(range(p), repeat=k))
            for many in range(k, p + 1):
                for xs in itertools.combinations(range(p), many):
                    by_values = {tuple(written_value(p, row, x) for x in xs): row for row in rows}
                    for told in itertools.product(range(p), repeat=many):
                        got = row_through(p, k, tuple(zip(xs, told)))
                        same(self, got, by_values.get(told), p, k, xs, told)

    def test_rows_again(self):
        chance = random.Random(72)
        for k in range(1, 61):
            for p in (61, 67, 7919, 999999937):
                row = drawn_row(chance, p, k)
                many = chance.randrange(k, 62)
                xs = chance.sample(range(min(p, 200)), min(many, p))
                if chance.randrange(2) and 0 not in xs:
                    xs[chance.randrange(len(xs))] = 0
                pairs = tuple((x, written_value(p, row, x)) for x in xs)
                same(self, row_through(p, k, pairs), row, p, k, pairs)
                if len(pairs) > k:
                    self.check_one_otherwise(chance, p, k, pairs)

    def check_one_otherwise(self, chance, p, k, pairs):
        """One value of more than k otherwise, the first or the last ones too: no row has them all."""
        for at in {0, len(pairs) - 1, chance.randrange(len(pairs))}:
            x, told = pairs[at]
            other = (told + chance.randrange(1, p)) % p
            same(self, row_through(p, k, pairs[:at] + ((x, other),) + pairs[at + 1:]), None, p, k, pairs, at)

    def test_too_few(self):
        for p in (61, 999999937):
            for k in (1, 2, 5, 60):
                for many in {0, 1, k - 1}:
                    if many >= k:
                        continue
                    with self.assertRaises(TooFew) as caught:
                        row_through(p, k, tuple((x, 1) for x in range(many)))
                    same(self, caught.exception.many, many, p, k)
                    self.assertIsInstance(caught.exception, NotSo)

    def test_too_few_though_no_row_would_do(self):
        with self.assertRaises(TooFew):
            row_through(7, 3, ((1, 6), (2, 3)))


class Vanishing(unittest.TestCase):
    def test_by_hand(self):
        same(self, vanishing(7, ()), (1,))
        same(self, vanishing(7, (0,)), (0, 1))
        same(self, vanishing(7, (3,)), (4, 1))
        same(self, vanishing(7, (1, 2)), (2, 4, 1))
        same(self, vanishing(2, (0, 1)), (0, 1, 1))
        same(self, vanishing(3, (0, 1, 2)), (0, 2, 0, 1))

    def test_its_values_its_last_number_its_length(self):
        chance = random.Random(73)
        for p in FIELDS:
            for many in {0, 1, 2, 3, 5, 30, 59, 60}:
                if many > p:
                    continue
                some = tuple(chance.sample(range(p), many))
                row = vanishing(p, some)
                same(self, (len(row), row[-1], type(row)), (many + 1, 1, tuple), p, some)
                self.assertTrue(all(type(number) is int and 0 <= number < p for number in row))
                for x in some:
                    same(self, written_value(p, row, x), 0, p, some, x)
                for x in chance.sample(range(min(p, 300)), min(p, 20)):
                    same(self, written_value(p, row, x) == 0, x in some, p, some, x)
                same(self, vanishing(p, some[::-1]), row, p, some)


class Asking(unittest.TestCase):
    def test_by_places_and_by_names(self):
        check_asking(self, value, {"p": 61, "row": (3, 60, 2), "x": 5})
        check_asking(self, values, {"p": 61, "row": (3, 60, 2), "many": 5})
        check_asking(self, row_through, {"p": 61, "k": 2, "pairs": ((4, 7), (0, 9), (2, 8))})
        check_asking(self, row_through, {"p": 61, "k": 2, "pairs": ((4, 7), (0, 9), (2, 5))})
        check_asking(self, vanishing, {"p": 61, "some": (5, 0, 60)})

    def test_few_steps(self):
        p = 999999937
        row = tuple(range(p - 60, p))
        pairs = tuple((x, written_value(p, row, x)) for x in range(60))
        counted(lambda: row_through(p, 60, pairs))
        counted(lambda: values(p, row, 60))
        counted(lambda: vanishing(p, tuple(range(60))))

    def test_somewhat_beyond_the_limits_raises_nothing(self):
        p = 1000000007
        row = tuple(range(1, 66))
        pairs = tuple((x, written_value(p, row, x)) for x in range(70))
        same(self, row_through(p, 65, pairs), row)
        same(self, len(values(p, row, 70)), 70)
        same(self, len(vanishing(p, tuple(range(70)))), 71)


if __name__ == "__main__":
    unittest.main()
